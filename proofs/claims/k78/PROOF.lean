import PyProof.Rows.All
import Wide.All
import OpenK.AllK
import Wide.FinOn
import HandS.ForMost
import HandS.Style
import HandS.IsInst
import HandS.Replace
import HandS.Wide
import HandS.Codes
import HandS.Walk
import HandS.DictComp
import HandS.Conv
import HandS.Nested
import HandS.EndTab
import PyProof.ListStr
import PyProof.StrOps2
import HandS.Conv
import HandS.Deep
import HandS.DictTup
import HandS.FStr
import HandS.Set
import HandS.SetKeys
import HandS.SetTxt0
import HandS.SortRule
import HandS.StrMore
import HandS.Strs
import HandS.TupMul
import HandS.WideBits
import HandS.Zip
import KE.GoesMore
import KE.KDictZip
import KE.KNestM
import KE.KeyNested
import KE.SortData
import PyProof.EnumMake
import PyProof.P3Eq
import PyProof.P3In
import PyProof.Rows.SetFrom
import PyProof.Rows.SortShellAny
import PyProof.SliceStr2
import PySem.Challenge.RW_likehands_k78_words_with_both
set_option Elab.async false
set_option linter.all false
set_option maxRecDepth 100000
set_option maxHeartbeats 4000000
namespace LH
open PySem PySem.Spec PyProof.Rows L2
/-! ### list(text) -/
section
variable {X : Cx}
def sgns (z : Str) : List V := z.cps.toList.map fun c => V.str ⟨#[c]⟩
theorem sgns_len (z : Str) : (sgns z).length = z.length := by
  unfold sgns
  rw [List.length_map, Array.length_toList]
  rfl
theorem vals_by : ∀ {xs : List V} {us : List Value}, xs.length = us.length → (∀ (j : Nat) (x : V) (u : Value), xs[j]? = some x → us[j]? = some u → RelV x u) → Vals xs us
  | [], [], _, _ => .nil
  | [], _ :: _, h, _ => by cases h
  | _ :: _, [], h, _ => by cases h
  | x :: xs, u :: us, h, q => .cons (q 0 x u rfl rfl) (vals_by (Nat.succ.inj h) fun j y v a b => q (j + 1) y v a b)
theorem vals_sgns {z : Str} {acc : Array Value} (h : ItemsOf (SignAt z) acc z.cps.size) : Vals (sgns z) acc.toList := by
  have hn : acc.size = z.cps.size := h.1
  refine vals_by ?_ fun j x u a b => ?_
  · rw [sgns_len, Array.length_toList, hn]
    rfl
  · rw [Array.getElem?_toList] at b
    obtain ⟨c, t, e1, e2⟩ := h.2 j u b
    unfold sgns at a
    rw [List.getElem?_map, Array.getElem?_toList, e1] at a
    cases a
    subst e2
    exact ⟨_, rfl⟩
theorem call_listS (hc : X.calm = true) : CallR X (.type "list") (fun xs H Q => ∃ z : Str, xs = [.str z] ∧ z.length ≤ sizeLine ∧ ∀ p, H p = none → Q (.ref p) (upd H p (.lst (sgns z)))) := by
  intro pins s σ H xs us Q I r h
  obtain ⟨z, rfl, hz, q⟩ := h
  obtain ⟨u, rfl, rx⟩ := vals1 r
  obtain ⟨t, rfl⟩ := rx
  refine PySem.call_list_str (I.ok.hd hc) z t (fun h' tk acc' c' kp e ha => ?_) hz
  exact ⟨.ref s.heap.objs.size, _, I.laid (t' := tk) kp (Nat.le_refl _) (show ObjOk X.prog X.w _ h' _ (.lst (sgns z)) from ⟨by rw [sgns_len]; exact hz, acc'.toList, c', vals_sgns ha, e⟩), rfl, q _ (I.hok.fresh (Nat.le_refl _))⟩
/-! ### text * number -/
def repS (z : Str) (n : Nat) : Str := ⟨(List.replicate n z.cps.toList).flatten.toArray⟩
theorem foldl_repS (z : Array Nat) : ∀ (n : Nat) (a : Array Nat), (List.replicate n z).foldl (· ++ ·) a = a ++ (List.replicate n z.toList).flatten.toArray
  | 0, a => by simp
  | n + 1, a => by
    rw [List.replicate_succ, List.foldl_cons, foldl_repS z n (a ++ z), List.replicate_succ, List.flatten_cons]
    apply Array.ext'
    simp
theorem repS_eq (z : Str) (n : Nat) : (⟨(List.replicate n z.cps).foldl (· ++ ·) #[]⟩ : Str) = repS z n := by
  rw [foldl_repS]
  unfold repS
  simp
theorem repS_one (z : Str) : repS z 1 = z := by
  unfold repS
  simp
theorem repS_len (z : Str) (n : Nat) : (repS z n).length = n * z.length := by
  show (List.replicate n z.cps.toList).flatten.toArray.size = n * z.cps.size
  rw [List.size_toArray, List.length_flatten, List.map_replicate, List.sum_replicate_nat, Array.length_toList]
theorem op_repS : OpR X (binaryOp .Mult) (fun x y H Q => ∃ (z : Str) (n : Int), x = .str z ∧ y = .int n ∧ 1 ≤ n ∧ n ≤ 1000 ∧ z.length ≤ 1000 ∧ Q (.str (repS z n.toNat)) H) := by
  intro pins s σ H x y v u Q I rx ry h
  obtain ⟨z, n, rfl, rfl, h1, h2, hz, q⟩ := h
  obtain ⟨t, rfl⟩ := rx
  obtain ⟨t', rfl⟩ := ry
  have hlen : z.length * n.toNat ≤ 1000000 := Nat.le_trans (Nat.mul_le_mul hz (show n.toNat ≤ 1000 by omega)) (by decide)
  refine PySem.P.mul_str ?_ (fun _ _ => ?_) (fun _ _ => ?_) ?_
  · rw [decide_eq_false (show ¬ n < -(2 ^ 63 : Int) by omega), decide_eq_false (show ¬ n ≥ 2 ^ 63 by omega)]
    rfl
  · have : (1000 : Int) ≤ (2 ^ 63 - 1) / n := by
      rw [Int.le_ediv_iff_mul_le (by omega)]
      omega
    omega
  · exact decide_eq_false (by
      have e : (1000000 : Nat) ≤ sizeLine := by decide
      omega)
  · rw [if_neg (show ¬ n < 1 by omega)]
    by_cases hc : (n == 1 || z.length == 0) = true
    · rw [if_pos hc]
      have e : repS z n.toNat = z := by
        rw [Bool.or_eq_true] at hc
        rcases hc with hc | hc
        · have : n = 1 := eq_of_beq hc
          subst this
          exact repS_one z
        · have h0 : z.cps.size = 0 := eq_of_beq hc
          have : z.cps = #[] := Array.eq_empty_of_size_eq_zero h0
          unfold repS
          rw [this]
          obtain ⟨a⟩ := z
          have : a = #[] := this
          subst this
          congr 1
          apply Array.ext'
          simp
      rw [e] at q
      exact ⟨.str z, H, I, ⟨_, rfl⟩, q⟩
    · rw [if_neg hc, repS_eq]
      refine ⟨?_, .str _, H, I.tok _, ⟨_, rfl⟩, q⟩
      show (repS z n.toNat).length ≤ sizeLine
      rw [repS_len, Nat.mul_comm]
      exact Nat.le_trans hlen (by decide)
end
/-! ### one sign in a text: its first place -/
theorem idxOf_le {c : Nat} : ∀ {xs : List Nat} {i : Nat}, xs[i]? = some c → xs.idxOf c ≤ i
  | [], i, h => by simp at h
  | x :: xs, i, h => by
    rw [List.idxOf_cons]
    by_cases e : x = c
    · subst e
      simp
    · cases i with
      | zero =>
        simp at h
        exact absurd h e
      | succ i =>
        have := idxOf_le (xs := xs) (i := i) (by simpa using h)
        rw [show (x == c) = false from beq_eq_false_iff_ne.mpr e]
        show xs.idxOf c + 1 ≤ i + 1
        omega
theorem occ_sign {z : Str} {c : Nat} (h : c ∈ z.cps.toList) : ∃ r, Builtin.Str.occurrences z ⟨#[c]⟩ 0 z.length 1 = z.cps.toList.idxOf c :: r := by
  have key : ∀ i, StrLaws.At z ⟨#[c]⟩ z.length i ↔ z.cps.toList[i]? = some c := fun i => StrLaws.subAt_one z c i
  have hi : z.cps.toList.idxOf c < z.cps.toList.length := List.idxOf_lt_length_iff.mpr h
  have e0 : z.cps.toList[z.cps.toList.idxOf c]? = some c := by
    rw [List.getElem?_eq_getElem hi, List.getElem_idxOf]
  rcases StrLaws.occ_head z ⟨#[c]⟩ 1 (Nat.le_refl _) with ⟨_, hn⟩ | ⟨i, r, e, ha, hn⟩
  · exact absurd ((key _).mpr e0) (hn _)
  · refine ⟨r, ?_⟩
    rw [e]
    congr 1
    have a1 : ¬ z.cps.toList.idxOf c < i := fun q => hn _ q ((key _).mpr e0)
    have a2 := idxOf_le ((key i).mp ha)
    omega
theorem find_sign {z : Str} {c : Nat} (h : c ∈ z.cps.toList) : Txt.find z ⟨#[c]⟩ = (z.cps.toList.idxOf c : Nat) := by
  obtain ⟨r, e⟩ := occ_sign h
  unfold Txt.find
  rw [e]
/-! ### texts of signs -/
abbrev sg (c : Nat) : Str := ⟨#[c]⟩
abbrev vs_ (cs : List Nat) : List V := cs.map fun c => V.str (sg c)
theorem join_sg : ∀ cs : List Nat, Txt.join ⟨#[]⟩ (cs.map sg) = ⟨cs.toArray⟩ := fun cs => by
  rw [TL.join_eq]
  induction cs with
  | nil => rfl
  | cons c r ih =>
    cases r with
    | nil => rfl
    | cons d r =>
      show sg c ++ ⟨#[]⟩ ++ Str.join ⟨#[]⟩ ((d :: r).map sg) = _
      rw [ih]
      show (⟨(#[c] ++ #[]) ++ (d :: r).toArray⟩ : Str) = ⟨(c :: d :: r).toArray⟩
      congr 1
      apply Array.ext'
      simp
theorem risingS_sg : ∀ (cs : List Nat) (c : Nat), risingS (sg c) (cs.map sg) = true → (c :: cs).Pairwise (· ≤ ·)
  | [], c, _ => by simp
  | d :: r, c, h => by
    have h : (!ltCps [d] [c] && risingS (sg d) (r.map sg)) = true := h
    rw [Bool.and_eq_true] at h
    have ih := risingS_sg r d h.2
    have hcd : c ≤ d := by
      have := h.1
      simp [ltCps] at this
      exact this
    refine List.Pairwise.cons (fun x hx => ?_) ih
    rcases List.mem_cons.mp hx with rfl | hx
    · exact hcd
    · exact Nat.le_trans hcd (List.rel_of_pairwise_cons ih hx)
theorem sortedS_sg {cs : List Nat} (h : sortedS (cs.map sg) = true) : cs.Pairwise (· ≤ ·) := by
  cases cs with
  | nil => simp
  | cons c r => exact risingS_sg r c h
/-- what a sort of one-sign texts gives -/
theorem perm_sg {cs : List Nat} {ys : List Str} (h : ys.Perm (cs.map sg)) : ∃ ds : List Nat, ys = ds.map sg ∧ ds.Perm cs := by
  let f : Str → Nat := fun z => z.cps.getD 0 0
  have hm := h.map f
  rw [List.map_map, show f ∘ sg = id from rfl, List.map_id] at hm
  refine ⟨ys.map f, ?_, hm⟩
  rw [List.map_map]
  have : ∀ y ∈ ys, (sg ∘ f) y = y := fun y hy => by
    obtain ⟨c, _, rfl⟩ := List.mem_map.mp (h.mem_iff.mp hy)
    rfl
  conv => lhs; rw [← List.map_id ys]
  exact List.map_congr_left fun y hy => (this y hy).symm
structure IsLet (z : Str) : Prop where
  one : 1 ≤ z.length
  five : z.length ≤ 5
  rise : z.cps.toList.Pairwise (· < ·)
  small : ∀ c ∈ z.cps.toList, 97 ≤ c ∧ c ≤ 122
theorem rise_of {cs : List Nat} (h : cs.Pairwise (· ≤ ·)) (n : cs.Nodup) : cs.Pairwise (· < ·) := by
  have := List.Pairwise.and h n
  exact this.imp fun ⟨a, b⟩ => Nat.lt_of_le_of_ne a b
theorem mem_az {c : Nat} (h : c ∈ (List.range 26).map (97 + ·)) : 97 ≤ c ∧ c ≤ 122 := by
  obtain ⟨k, hk, rfl⟩ := List.mem_map.mp h
  have := List.mem_range.mp hk
  omega
theorem cutV_map {f : Nat → V} (cs : List Nat) (lo hi : Option Int) : cutV (cs.map f) lo hi = ((cs.drop (HT.sIx cs.length 0 lo)).take (HT.sIx cs.length cs.length hi - HT.sIx cs.length 0 lo)).map f := by
  unfold cutV
  rw [List.length_map, List.map_take, List.map_drop]
theorem cut_from (cs : List Nat) (g : Nat) : (cs.drop (HT.sIx cs.length 0 (some (g : Int)))).take (HT.sIx cs.length cs.length none - HT.sIx cs.length 0 (some (g : Int))) = cs.drop g := by
  rw [HT.sIx_nat, HT.sIx_none]
  by_cases h : g ≤ cs.length
  · rw [Nat.min_eq_left h, List.take_of_length_le (by rw [List.length_drop] <;> omega)]
  · rw [Nat.min_eq_right (by omega), List.drop_of_length_le (by omega), List.drop_of_length_le (by omega), List.take_nil]
theorem cut_to (cs : List Nat) (g : Nat) : (cs.drop (HT.sIx cs.length 0 none)).take (HT.sIx cs.length cs.length (some (g : Int)) - HT.sIx cs.length 0 none) = cs.take g := by
  rw [HT.sIx_nat, HT.sIx_none, Nat.sub_zero, List.drop_zero]
  by_cases h : g ≤ cs.length
  · rw [Nat.min_eq_left h]
  · rw [Nat.min_eq_right (by omega), List.take_of_length_le (Nat.le_refl _), List.take_of_length_le (by omega)]
theorem seqIx {i : Int} {n : Nat} (h0 : 0 ≤ i) (h1 : i < n) : seqIndex? i n = some i.toNat := by
  unfold seqIndex?
  have e : ¬ i < 0 := by omega
  simp [h0, h1, e]
theorem atI_of {xs : List V} {i : Int} {v : V} (h0 : 0 ≤ i) (h : xs[i.toNat]? = some v) : atI xs i = some v := at_of (j := i.toNat) (by omega) h
theorem erase_perm (ls : List Nat) (k : Nat) (h : k < ls.length) : ls.Perm (ls[k] :: ls.eraseIdx k) := by
  rw [List.eraseIdx_eq_take_drop_succ]
  conv => lhs; rw [← List.take_append_drop k ls, List.drop_eq_getElem_cons h]
  exact List.perm_middle
theorem sgns_az : sgns "abcdefghijklmnopqrstuvwxyz" = vs_ ((List.range 26).map (97 + ·)) := by decide +kernel
/-! ### the rules that speak of the written part, by a K of their own (so that they may stand within a comprehension) -/
section
variable {X : Cx} (K : PySem.W.Frag) (hK : X.K = K)
def rLenK : List V → Hp → VK → Prop := fun xs H Q => ∃ p ys, xs = [.ref p] ∧ (SqL K H p ys ∨ SqT K H p ys) ∧ Q (.int ys.length) H
def rListK : List V → Hp → VK → Prop := fun xs H Q => ∃ p ys, xs = [.ref p] ∧ (SqL K H p ys ∨ SqT K H p ys) ∧ ∀ l, H l = none → Q (.ref l) (upd H l (.lst ys))
def rTupleK : List V → Hp → VK → Prop := fun xs H Q => ∃ p ys, xs = [.ref p] ∧ ((SqL K H p ys ∧ ∀ l, H l = none → Q (.ref l) (upd H l (.tup ys))) ∨ (SqT K H p ys ∧ Q (.ref p) H))
def rJoinK : V → List V → Hp → VK → Prop := fun x xs H Q => ∃ a p, ∃ ys : List Str, x = .str a ∧ xs = [.ref p] ∧ (SqL K H p (ys.map V.str) ∨ SqT K H p (ys.map V.str)) ∧ (ys.map (·.length)).sum + ys.length * a.length ≤ 16777216 ∧ Q (.str (Txt.join a ys)) H
include hK
theorem ix_listK : IxR X (rIxL K) := by subst hK; exact ix_list
theorem ix_tupK : IxR X (rIxT K) := by subst hK; exact ix_tup
theorem sl_listK : SlR X (rSlL K) := by subst hK; exact sl_list
theorem sl_tupK : SlR X (rSlT K) := by subst hK; exact sl_tup
theorem op_in_seqK : OpR X (compareOp .In) (rIn K false) := by subst hK; exact op_in_seq
theorem op_notIn_seqK : OpR X (compareOp .NotIn) (rIn K true) := by subst hK; exact op_notIn_seq
theorem call_lenK : CallR X (.builtin "len") (rLenK K) := by subst hK; exact call_len_seq
theorem call_listK : CallR X (.type "list") (rListK K) := by subst hK; exact call_list_of
theorem call_tupleK : CallR X (.type "tuple") (rTupleK K) := by subst hK; exact call_tuple_of
theorem cr_sumK (hc : X.calm = true) : CallR X (.builtin "sum") (rSum K) := by subst hK; exact cr_sum hc
theorem cr_anyK (hc : X.calm = true) : CallR X (.builtin "any") (rAny K) := by subst hK; exact cr_any hc
theorem cr_allK (hc : X.calm = true) : CallR X (.builtin "all") (rAll K) := by subst hK; exact cr_all hc
theorem cr_sortedK : CallR X (.builtin "sorted") (rSorted K) := by subst hK; exact cr_sorted
theorem cr_sortedSK : CallR X (.builtin "sorted") (rSortedS K) := by subst hK; exact cr_sortedS
theorem call_isiK : CallR X (.builtin "isinstance") (rIsi K) := by subst hK; exact call_isi
theorem mt_joinK : MtR X "str.join" (rJoinK K) := by subst hK; exact mt_join
theorem pi_listK {tg l : Expr} {tl : TE} (hl : PE X l tl) : PI X tg l (iList K tl) := by subst hK; exact pi_list hl
theorem pi_tupK {tg l : Expr} {tl : TE} (hl : PE X l tl) : PI X tg l (iTup K tl) := by subst hK; exact pi_tup hl
theorem pe_revLK {e : Expr} {te : TE} {k : Nat} {p1 p2 p3 pos : Pos} (he : PE X e te) : PE X (.Subscript e (.Slice none none (some (.UnaryOp .USub (.Constant (.int 1) k p1) p2)) p3) pos) (tRevL K te) := by subst hK; exact pe_revL he
theorem pg_tupK {pos : Pos} {es : List Expr} {k : Nat} {t : TGs} {n : Nat} (hc : X.calm = true) (h : PGs X es t) (hn : (assignEach es X.env).length = n := by rfl) (hst : (assignEach es X.env).findIdx? (·.1) = none := by rfl) : PG X (.Tuple es k pos) (gTup K n t) := by subst hK; exact pg_tup hc h hn hst
theorem pe_bm0K {o : Expr} {to : TE} {name : Str} {ap cp : Pos} {T id : String} {r : V → List V → Hp → VK → Prop} (pa : PlainAttrs T) (sl : Slot T name id) (ty : typeOf (.builtin id) = pure (.type "method_descriptor")) (hm : MtR X id r) (ho : PE X o to) (h1 : attributeBase o name X.env (eval o X.env) = eval o X.env := by rfl) (h2 : (ap.endLine == cp.line) = true := by rfl) : PE X (.Call (.Attribute o name ap) [] [] cp) (tBM0 K T r to) := by subst hK; exact pe_bm0 pa sl ty hm ho h1 h2
theorem pe_bmK {o e : Expr} {es : List Expr} {to : TE} {t : TA} {name : Str} {ap cp : Pos} {T id : String} {r : V → List V → Hp → VK → Prop} (pa : PlainAttrs T) (sl : Slot T name id) (ty : typeOf (.builtin id) = pure (.type "method_descriptor")) (hm : MtR X id r) (ho : PE X o to) (ha : PA X (e :: es) t) (h1 : attributeBase o name X.env (eval o X.env) = eval o X.env := by rfl) (h2 : ((backTo cp (starEach (e :: es) X.env)).all (fun x => !x.1) && (backToKw cp (keywordEach [] X.env)).all (fun x => x.1.isSome) && decide ((e :: es).length + ([] : List Keyword).length + (if ([] : List Keyword).isEmpty then 0 else 1) < 30)) = true := by rfl) (h3 : (ap.endLine == cp.line) = true := by rfl) (h4 : starEach (e :: es) X.env = (false, eval e X.env) :: starEach es X.env := by rfl) (h5 : (backTo cp (starEach es X.env)).any (·.1) = false := by rfl) : PE X (.Call (.Attribute o name ap) (e :: es) [] cp) (tBM K T r to t) := by subst hK; exact pe_bm pa sl ty hm ho ha h1 h2 h3 h4 h5
end
/-- a comprehension's turn without a test -/
theorem lcyes {σ : L2.St} {H : Hp} {A B : Hp → Prop} (h : A H) : tYes σ H (fun b H3 => if b = true then A H3 else B H3) := by
  show (if true = true then A H else B H)
  rw [if_pos rfl]
  exact h
theorem vs_snoc (ys : List Nat) (c : Nat) : vs_ ys ++ [V.str (sg c)] = vs_ (ys ++ [c]) := by
  show _ = List.map _ (ys ++ [c])
  rw [List.map_append]
  rfl
theorem vs_erase : ∀ (ls : List Nat) (k : Nat), (vs_ ls).eraseIdx k = vs_ (ls.eraseIdx k)
  | [], _ => rfl
  | _ :: _, 0 => rfl
  | c :: r, k + 1 => by
    show V.str (sg c) :: (vs_ r).eraseIdx k = V.str (sg c) :: vs_ (r.eraseIdx k)
    rw [vs_erase r k]
end LH

namespace LH
open PySem PySem.Spec PyProof.Rows L2
/-! ### sets of texts: set(list), sorted(set) -/
/-- at a stands a set whose members are just the texts l, each once -/
def TSet (P : Program) (w : World) (a : Addr) (l : List Str) (h : Heap) : Prop :=
  l.Nodup ∧ ∃ D : Froz.SD, h.get? a = some (Froz.sObj "set" D) ∧ Froz.TxOk P w D l ∧ Ris D.2.2.place.toList ∧ (w.params.followText "set-order" = true ∨ D.2.2.led = true)
theorem TSet.at {P : Program} {w : World} {a : Addr} {l : List Str} {h h' : Heap} (T : TSet P w a l h) (k : ∀ o, h.get? a = some o → h'.get? a = some o) : TSet P w a l h' :=
  let ⟨n, D, e, r⟩ := T
  ⟨n, D, k _ e, r⟩
theorem tx_ris (x : Int) (v : Value) (D : Froz.SD) (r : Ris D.2.2.place.toList) : Ris (Froz.addTx x v D).2.2.place.toList ∧ (Froz.addTx x v D).2.2.led = D.2.2.led := by
  have r1 := layNew_ris D.2.2 D.1 x v r
  have l1 := layNew_led D.2.2 D.1 x v
  unfold Froz.addTx
  generalize layNew D.2.2 D.1 x v = Z at r1 l1 ⊢
  obtain ⟨es1, t1, wd, gv⟩ := Z
  dsimp only at r1 l1 ⊢
  have r2 : Ris (if t1.plain = true then { t1 with plain := false } else t1 : SetTable).place.toList ∧ (if t1.plain = true then { t1 with plain := false } else t1 : SetTable).led = D.2.2.led := by
    split
    · exact ⟨r1, l1⟩
    · exact ⟨r1, l1⟩
  generalize (if t1.plain = true then { t1 with plain := false } else t1 : SetTable) = t2 at r2 ⊢
  unfold Froz.tailTx
  split
  · exact ⟨relayAll_ris _ _ _, (relayAll_led _ _ _).trans r2.2⟩
  · exact r2
section
variable {P : Program} {w : World} {A : Around} {E : Value → Shared → Prop} {s : Shared}
/-- the add of a text that is in -/
theorem tx_old {a : Addr} {T : String} {D : Froz.SD} {l : List Str} {k : Str} {u : Tok} {Q : Bool → Shared → Prop} (ho : s.heap.get? a = some (Froz.sObj T D)) (F : Froz.TxOk P w D l) (hk : k ∈ l) (hb : l.length < scanBound) (h : Q false s) :
    wpAny (model P w) A (setAddHashed a (.str k u) (hashStr w k)) Q E s := by
  have hkey : (PySem.strKind P w).is k (.str k u) = true := Froz.is_str k u
  have hd : (Froz.sObj T D).data = .set D.1 D.2.1 D.2.2 := rfl
  have hsz : D.1.size < scanBound := by rw [F.sz]; exact hb
  obtain ⟨e, he, hm⟩ := (F.mem k).mp hk
  unfold setAddHashed setAddHashedIn
  refine wpAny_holding (wpAny_bind (wpAny_setState_of ho hd F.fit ?_))
  dsimp only
  rw [byScan_of (knd := PySem.strKind P w) rfl hsz F.el]
  simp only [↓reduceIte]
  unfold setAddByScan
  refine wpAny_bind (wpAny_bind (wpAny_rule (wpAny_bind (wpAny_setScan_of (knd := PySem.strKind P w) (k := k) hkey ho hd F.fit F.el ?_))))
  cases hf : List.findIdx? (fun e => (PySem.strKind P w).is k e.2) D.1.toList with
  | none =>
    have c := List.findIdx?_eq_none_iff.mp hf e he
    rw [hm] at c
    cases c
  | some j => exact wpAny_pure (wpAny_pure h)
/-- the members behind one more -/
def tAdd (l : List Str) (k : Str) : List Str := if k ∈ l then l else k :: l
theorem mem_tAdd {l : List Str} {k x : Str} : x ∈ tAdd l k ↔ x ∈ l ∨ x = k := by
  unfold tAdd
  split
  · rename_i h
    exact ⟨.inl, fun z => z.elim id fun e => e ▸ h⟩
  · rw [List.mem_cons]
    exact Or.comm
theorem tAdd_len (l : List Str) (k : Str) : (tAdd l k).length ≤ l.length + 1 := by
  unfold tAdd
  split
  · omega
  · exact Nat.le_refl _
theorem tx_add {a : Addr} {l : List Str} {k : Str} {u : Tok} {Q : Bool → Shared → Prop} (T : TSet P w a l s.heap) (hb : l.length + 1 < scanBound)
    (h : ∀ (b : Bool) (h' : Heap) (tk : Nat), s.toks ≤ tk → TSet P w a (tAdd l k) h' → (∀ c o, c ≠ a → s.heap.get? c = some o → h'.get? c = some o) → Q b { s with heap := h', toks := tk }) : wpAny (model P w) A (setAdd a (.str k u)) Q E s := by
  obtain ⟨nd, D, ho, F, r, hl⟩ := T
  unfold setAdd
  refine wpAny_holding (wpAny_bind ((PySem.strKind P w).pyHash (k := k) (Froz.is_str _ _) ?_))
  by_cases hk : k ∈ l
  · have e : tAdd l k = l := if_pos hk
    refine tx_old (s := { s with toks := s.toks + 1 }) (l := l) (D := D) ho F hk (by omega) ?_
    exact h false s.heap (s.toks + 1) (Nat.le_succ _) (by rw [e]; exact ⟨nd, D, ho, F, r, hl⟩) fun _ _ _ q => q
  · have e : tAdd l k = k :: l := if_neg hk
    refine Froz.add_x (s := { s with toks := s.toks + 1 }) (l := l) (D := D) ho F hk hb ?_
    obtain ⟨r1, l1⟩ := tx_ris (hashStr w k) (.str k u) D r
    refine h true _ (s.toks + 1) (Nat.le_succ _) ?_ fun c o hc q => Heap.get?_update_of_ne _ (Ne.symm hc) q
    rw [e]
    exact ⟨List.nodup_cons.mpr ⟨hk, nd⟩, _, Froz.get_upd _ ho rfl, Froz.add_ok u F, r1, by rw [l1]; exact hl⟩
end
/-- the members, when the texts were put in one by one -/
def tAll (xs : List Str) : List Str := xs.foldl tAdd []
theorem mem_foldl_tAdd {x : Str} : ∀ (xs l : List Str), x ∈ xs.foldl tAdd l ↔ x ∈ l ∨ x ∈ xs
  | [], l => by simp
  | k :: r, l => by
    rw [List.foldl_cons, mem_foldl_tAdd r, mem_tAdd, List.mem_cons]
    constructor
    · rintro ((q | q) | q)
      · exact .inl q
      · exact .inr (.inl q)
      · exact .inr (.inr q)
    · rintro (q | q | q)
      · exact .inl (.inl q)
      · exact .inl (.inr q)
      · exact .inr q
theorem mem_tAll {x : Str} {xs : List Str} : x ∈ tAll xs ↔ x ∈ xs := by
  unfold tAll
  rw [mem_foldl_tAdd]
  simp
theorem len_foldl_tAdd : ∀ (xs l : List Str), (xs.foldl tAdd l).length ≤ l.length + xs.length
  | [], l => by simp
  | k :: r, l => by
    have a := len_foldl_tAdd r (tAdd l k)
    have b := tAdd_len l k
    rw [List.foldl_cons, List.length_cons]
    omega
theorem tAll_len (xs : List Str) : (tAll xs).length ≤ xs.length := by
  have := len_foldl_tAdd xs []
  rw [List.length_nil, Nat.zero_add] at this
  exact this
theorem tAll_snoc (xs : List Str) (k : Str) : tAll (xs ++ [k]) = tAdd (tAll xs) k := by
  unfold tAll
  rw [List.foldl_append]
  rfl
section
variable {P : Program} {w : World} {A : Around} {R : Result → Shared → Prop} {I : Addr} {fp wr : List Addr} {G : Array GenState → Array GenState → Prop} {n : Nat} {Pv : Nat → Value → Prop} {St : Nat → Shared → Prop}
/-- the loop that puts what is walked into a set of texts -/
theorem tx_loop (W : WalksS P w A.in1 I fp wr G n Pv St) (S : Addr) (hS : S ∉ fp) (xs : List Str) (hn : xs.length = n) (hb : n + 1 < scanBound) (hv : ∀ i v, Pv i v → ∃ x t, xs[i]? = some x ∧ v = .str x t) :
    ∀ (k i : Nat) (s : Shared), n - i = k → i ≤ n → St i s → TSet P w S (tAll (xs.take i)) s.heap → (∀ s', Moved (S :: wr) G s s' → TSet P w S (tAll xs) s'.heap → R (.ok (.ret .none)) s') →
      codeAny (model P w) A (.builtin "set.update.loop" ⟨[.ref S, .ref I], []⟩) R s := by
  have hw : S ∉ wr := fun z => hS (W.sub _ z)
  have up : ∀ b ∈ wr, b ∈ S :: wr := fun b z => List.mem_cons_of_mem _ z
  intro k
  induction k with
  | zero =>
    intro i s hk hi st T hR
    obtain rfl : i = n := by omega
    rw [List.take_of_length_le (Nat.le_of_eq hn)] at T
    refine codeAny_builtin PyProof.Rows.F.entry_set_update_loop ?_
    rw [Around.under_plainId PyProof.Rows.F.plain_set_update_loop _]
    show wpAny _ A.in1 (pyNext (.ref I) >>= _) _ _ s
    refine wpAny_bind (W.done s _ _ st fun s' m => ?_)
    exact wpAny_pure (hR s' (m.mono up) (T.at fun o q => m.heap S o hw q))
  | succ k ih =>
    intro i s hk hi st T hR
    have lt : i < n := by omega
    refine codeAny_builtin PyProof.Rows.F.entry_set_update_loop ?_
    rw [Around.under_plainId PyProof.Rows.F.plain_set_update_loop _]
    show wpAny _ A.in1 (pyNext (.ref I) >>= _) _ _ s
    refine wpAny_bind (W.item i s _ _ lt st fun v s1 hP st1 m1 => ?_)
    obtain ⟨x, t, ex, rfl⟩ := hv i v hP
    have T1 : TSet P w S (tAll (xs.take i)) s1.heap := T.at fun o q => m1.heap S o hw q
    have room : (tAll (xs.take i)).length + 1 < scanBound := by
      have a := tAll_len (xs.take i)
      have b := List.length_take_le i xs
      omega
    show wpAny _ A.in1 (holding [Value.str x t] (setAdd S (.str x t)) >>= _) _ _ s1
    refine wpAny_bind (wpAny_holding (tx_add T1 room fun b h2 tk htk T2 k2 => ?_))
    have e : tAll (xs.take (i + 1)) = tAdd (tAll (xs.take i)) x := by
      rw [List.take_add_one, ex]
      exact tAll_snoc _ _
    rw [← e] at T2
    refine wpAny_pure ⟨plainId_quiet PyProof.Rows.F.plain_set_update_loop _, ih (i + 1) _ (by omega) lt (W.frame _ s1 _ _ st1 htk fun c hc o q => k2 c o (fun z => hS (z ▸ hc)) q) T2 fun s3 m3 T3 => ?_⟩
    exact hR s3 (Moved.trans W.gtrans ((m1.mono up).then_heap htk fun c o hc q => k2 c o (fun z => hc (z ▸ List.mem_cons_self)) q) m3) T3
end
end LH

namespace LH
open PySem PySem.Spec PyProof.Rows L2
/-- as many and the same members, of which one list has none twice -/
theorem perm_sub : ∀ (l m : List Str), l.Nodup → m.length = l.length → (∀ x ∈ l, x ∈ m) → m.Perm l
  | [], m, _, h, _ => by rw [List.length_eq_zero_iff.mp h]
  | x :: r, m, nd, h, hs => by
    obtain ⟨n1, n2⟩ := List.nodup_cons.mp nd
    have hx := hs x List.mem_cons_self
    refine (List.perm_cons_erase hx).trans (List.Perm.cons x (perm_sub r (m.erase x) n2 ?_ fun y hy => ?_))
    · rw [List.length_erase_of_mem hx, h]
      rfl
    · have hne : y ≠ x := fun e => n1 (e ▸ hy)
      exact (List.mem_erase_of_ne hne).mpr (hs y (List.mem_cons_of_mem _ hy))
theorem TSet.perm {l m : List Str} (nd : l.Nodup) (hl : m.length = l.length) (hm : ∀ x, x ∈ l ↔ x ∈ m) : m.Perm l := perm_sub l m nd hl fun x hx => (hm x).mp hx
/-- a new set -/
abbrev set0 (w : World) : Obj := { cls := .type "set", dict := none, data := .set #[] 0 (.fresh 0 0 (!w.params.followText "set-order")) }
section
variable {P : Program} {w : World} {A : Around} {E : Value → Shared → Prop} {s : Shared}
theorem set_made (a : Value) {Q₁ : Value → Shared → Prop} (h : Q₁ (.ref s.heap.objs.size) { s with heap := s.heap.push (set0 w) }) :
    codeAny (model P w) A (.call (.builtin "set.__new__") ⟨[.type "set", a], []⟩) (wants Q₁ E) s := by
  refine codeAny_of_tree ?_
  show wpAny _ A.in1 (checkBuiltinCall "set.__new__" ⟨[.type "set", a], []⟩ >>= fun _ => again (.builtin "set.__new__" ⟨[.type "set", a], []⟩)) _ _ s
  refine wpAny_bind (wpAny_of_eq (PySem.F.newCall_set_1 a) (wpAny_pure ⟨plainId_quiet PySem.F.plain_set_new _, codeAny_builtin PySem.F.entry_set_new ?_⟩))
  rw [Around.under_plainId PySem.F.plain_set_new _]
  unfold Builtin.«set.__new__» Builtin.Frozenset.newClass
  have sb := sub_set_self
  obtain ⟨hp, g, d, tk, os⟩ := s
  dsimp only
  wp_walk
  refine wpAny_askSetting (wpAny_pure ?_)
  dsimp only
  simp only [newObj]
  exact wpAny_bind (wpAny_alloc (wpAny_pure (wpAny_pure h)))
theorem tset_new {h h' : Heap} (e : h'.get? h.objs.size = some (set0 w)) : TSet P w h.objs.size [] h' :=
  ⟨List.nodup_nil, (#[], 0, .fresh 0 0 (!w.params.followText "set-order")), e, Froz.TxOk.nil (by rfl), List.Pairwise.nil, by
    show _ ∨ (!w.params.followText "set-order") = true
    cases w.params.followText "set-order"
    · exact .inr rfl
    · exact .inl rfl⟩
set_option maxHeartbeats 4000000 in
/-- set(xs) of a list of texts -/
theorem call_setT {l : Addr} {items : Array Value} {xs : List Str} {Q : Value → Shared → Prop} (hh : A.handled = none) (hl : s.heap.IsList l items) (hi : StrsAre items.toList xs) (hb : items.size + 1 < scanBound)
    (h : ∀ (h' : Heap) (tk : Nat), TSet P w s.heap.objs.size (tAll xs) h' → (∀ b o, b < s.heap.objs.size → s.heap.get? b = some o → h'.get? b = some o) → Q (.ref s.heap.objs.size) { s with heap := h', toks := tk }) :
    wpAny (model P w) A (call (.type "set") [.ref l]) Q E s := by
  obtain ⟨c, tl, hmro⟩ := PySem.F.called_set.mro
  have hmade := PySem.F.called_set.made
  have hsub := PySem.F.called_set.sub
  refine wpAny_call (codeAny_of_tree ?_)
  show wpAny _ _ (callAny (.type "set") _) _ _ _
  refine wpAny_pure ⟨Code.quiet_builtin _ (by decide +kernel), codeAny_builtin PySem.F.entry_type_call ?_⟩
  rw [Around.under_plain (weight_type_call_type "set" [.ref l] []) rfl]
  have h1 := PySem.F.called_set.notType
  have h2 := PySem.F.called_set.canCreate
  have hct := PySem.F.typeCall_set_1 (.ref l)
  repeat (any_goals (first | assumption | wp_step))
  refine codeAny_mono (set_made (.ref l) (E := E) (Q₁ := fun obj s₁ => obj = .ref s.heap.objs.size ∧ s₁ = { s with heap := s.heap.push (set0 w) }) ⟨rfl, rfl⟩) fun r s₁ hr => ?_
  cases r with
  | error e => exact hr
  | ok fl =>
    cases fl with
    | ret obj =>
      obtain ⟨rfl, rfl⟩ := hr
      have hS : (s.heap.push (set0 w)).get? s.heap.objs.size = some (set0 w) := Heap.get?_push_size _ rfl
      have hT : Shared.TypeIs { s with heap := s.heap.push (set0 w) } (.ref s.heap.objs.size) "set" := ⟨_, hS, rfl⟩
      have hli := PySem.F.called_set.init.lookup
      have hbi := PySem.F.called_set.init.bind (.ref s.heap.objs.size)
      repeat (any_goals (first | assumption | wp_step))
      refine codeAny_mono (codeAny_call_builtin (R := wants (fun r s₂ => r = .none ∧ ∃ h' tk, s₂ = { s with heap := h', toks := tk } ∧ TSet P w s.heap.objs.size (tAll xs) h' ∧
          (∀ b o, b < s.heap.objs.size → s.heap.get? b = some o → h'.get? b = some o)) E) PySem.F.called_set.init.plain PySem.F.entry_set_init (check_set_init_1 hT ?_)) fun r₂ s₂ hr₂ => ?_
      · obtain ⟨ol, hol, hcl, nl, hdl⟩ := hl
        obtain ⟨ocls, odict, odata, oslots⟩ := ol
        simp only at hcl hdl
        subst hcl
        subst hdl
        have hol' : (s.heap.push (set0 w)).get? l = some { cls := .type "list", dict := odict, data := .seq items nl, slots := oslots } := Heap.get?_push_of_some _ hol
        have hsls := PySem.F.sub_list_set
        have hslf := PySem.F.sub_list_frozenset
        have hne : (Value.type "list" == Value.type "dict") = false := by decide
        have hl1 : (s.heap.push (set0 w)).IsList l items := ⟨_, hol', rfl, nl, rfl⟩
        unfold Builtin.«set.__init__» noKeywords Builtin.Frozenset.updateFrom
        generalize hPI : pyIter = PI
        wp_walk
        subst hPI
        refine wpAny_pyIter_list hl1 (wpAny_bind (wpAny_runValue ?_))
        have lS : l < s.heap.objs.size := Heap.lt_size hol
        have eS : (s.heap.push (set0 w)).objs.size = s.heap.objs.size + 1 := Heap.size_push ..
        have neI : l ≠ (s.heap.push (set0 w)).objs.size := by
          rw [eS]
          exact Nat.ne_of_lt (Nat.lt_succ_of_lt lS)
        have out : s.heap.objs.size ∉ [(s.heap.push (set0 w)).objs.size, l] := fun z => by
          rcases List.mem_cons.mp z with z | z
          · rw [eS] at z
            exact absurd z (Nat.ne_of_lt (Nat.lt_succ_self _))
          · exact absurd (List.mem_singleton.mp z) (Nat.ne_of_gt lS)
        have hsz : xs.length = items.size := by rw [← StrsAre.len_eq hi, Array.length_toList]
        have hv : ∀ (i : Nat) (v : Value), items[i]? = some v → ∃ x t, xs[i]? = some x ∧ v = .str x t := fun i v q => by
          have hil : i < xs.length := by
            rw [hsz]
            exact (Array.getElem?_eq_some_iff.mp q).1
          obtain ⟨t, e⟩ := SS.strs_at hi i v (by rw [Array.getElem?_toList]; exact q)
          refine ⟨_, t, ?_, e⟩
          rw [List.getD_eq_getElem?_getD, List.getElem?_eq_getElem hil]
          rfl
        refine tx_loop ((Walks.list (by show A.in1.in1.in1.handled = none; simp [hh]) _ l neI items).toS) s.heap.objs.size out xs hsz hb hv items.size 0 _ (by omega) (Nat.zero_le _) ⟨⟨_, Heap.get?_push_size _ rfl, rfl, rfl⟩, hl1.push _⟩ ?tx1 ?tx2
        case tx1 => exact tset_new (h := s.heap) (Heap.get?_push_of_some _ hS)
        case tx2 =>
          intro s' m T
          obtain ⟨h', g', d', tk', os'⟩ := s'
          obtain rfl : g' = s.gens := m.gens
          obtain rfl : d' = s.drawn := m.drawn
          obtain rfl : os' = s.os := m.os
          refine wpAny_pure (wpAny_pure ⟨rfl, h', tk', rfl, T, fun b o q e => ?_⟩)
          refine m.heap b o (fun z => ?_) (Heap.get?_push_of_some _ (Heap.get?_push_of_some _ e))
          rcases List.mem_cons.mp z with z | z
          · exact absurd z (Nat.ne_of_lt q)
          · have z := List.mem_singleton.mp z
            rw [eS] at z
            exact absurd z (Nat.ne_of_lt (Nat.lt_succ_of_lt q))
      · cases r₂ with
        | error e => exact hr₂
        | ok fl₂ =>
          cases fl₂ with
          | ret r =>
            obtain ⟨rfl, h', tk, rfl, T, hk⟩ := hr₂
            repeat (any_goals (first | assumption | wp_step))
            exact h _ _ T hk
          | _ => exact hr₂.elim
    | _ => exact hr.elim
/-- sorted(found) of a set of texts -/
theorem call_sortedT {a : Addr} {l : List Str} {Q : Value → Shared → Prop} (T : TSet P w a l s.heap) (hh : A.handled = none) (hb : l.length < scanBound)
    (hQ : ∀ s' p (out : Array Value) (c : Nat) (ys : List Str), (∀ b o, s.heap.get? b = some o → s'.heap.get? b = some o) → s'.gens = s.gens → s'.os = s.os → s.heap.objs.size ≤ p →
      s'.heap.get? p = some (seqObj "list" out c) → StrsAre out.toList ys → ys.Perm l → sortedS ys = true → Q (.ref p) s') :
    wpAny (model P w) A (call (.builtin "sorted") [.ref a]) Q E s := by
  obtain ⟨nd, D, ho, F, r, hl⟩ := T
  have hsz : D.1.size < scanBound := by rw [F.sz]; exact hb
  refine Calls.call_function_entry kind_sorted plain_sorted entry_sorted (args_sorted1 _) ?_
  unfold Builtin.«sorted»
  refine wpAny_bind (m := checkCount "sorted" 1 1 _) (wpAny_pure ?_)
  refine wpAny_bind (collect_set (A := A.in1) (es := D.1) (ep := D.2.1) (t := D.2.2) hh ⟨_, ho, rfl, rfl⟩ F.fit hsz r hl fun s1 vs k1 hz g1 o1 pm => ?_)
  have all : ∀ v ∈ vs, ∃ x t, v = Value.str x t := fun v hv => by
    obtain ⟨e, he, rfl⟩ := List.mem_map.mp (pm.mem_iff.mp hv)
    obtain ⟨⟨k, hk, _⟩, _⟩ := F.el e he
    have hk : Value.isStrOf k e.2 = true := hk
    cases q : e.2 with
    | str x t => exact ⟨x, t, rfl⟩
    | _ =>
      rw [q] at hk
      cases hk
  have hS : StrsAre vs (vs.map strOf) := strsAre_map vs all
  have hvl : vs.length ≤ sizeLine := by
    rw [pm.length_eq, List.length_map, Array.length_toList]
    exact fits_of_scanBound hsz
  refine wpAny_bind (wpAny_newList ?_ hvl)
  have hoL : (s1.heap.push (seqObj "list" vs.toArray 0)).get? s1.heap.objs.size = some (seqObj "list" vs.toArray 0) := Heap.get?_push_size _ rfl
  refine wpAny_bind (wpAny_holding (wpAny_call_entry slot_list_sort ⟨_, hoL, rfl⟩ entry_list_sort (list_sort_treeKAny strKind_oneLt hoL hS.keysOf (fun v₁ v₂ rest e => keyKind_strs (by rw [← e]; exact hS)) hvl fun st' hp hs => ⟨_, rfl, ?_⟩) (args_list_sort _)))
  obtain ⟨ys, a1, a2, a3⟩ := sorted_out_str hS hp hs
  obtain ⟨c, hc⟩ := sortedHeap_at (vs := vs) (out := (arrOf st').map (·.2)) hoL
  refine wpAny_pure ⟨_, rfl, hQ _ s1.heap.objs.size _ c ys (fun b u e => ?_) g1 o1 hz hc a1 (a2.trans ?_) a3⟩
  · have q := k1 b u e
    have hlt := Heap.lt_size q
    refine (sortedHeap_old (Nat.ne_of_lt hlt) ?_).trans (Heap.get?_push_of_some _ q)
    exact Nat.lt_of_lt_of_eq (Nat.lt_succ_of_lt hlt) (size_push' ..).symm
  · -- the texts of the entries are just l
    have p1 : (vs.map strOf).Perm (D.1.toList.map fun e => strOf e.2) := by
      have q := pm.map strOf
      rw [List.map_map] at q
      exact q
    have key : ∀ e ∈ D.1.toList, ∀ k : Str, (PySem.strKind P w).is k e.2 = true ↔ strOf e.2 = k := fun e he k => by
      obtain ⟨⟨k0, hk0, _⟩, _⟩ := F.el e he
      have e0 : strOf e.2 = k0 := by
        have hk0 : Value.isStrOf k0 e.2 = true := hk0
        cases q : e.2 with
        | str x t =>
          rw [q] at hk0
          have : (x == k0) = true := by simpa [Value.isStrOf] using hk0
          exact eq_of_beq this
        | _ =>
          rw [q] at hk0
          cases hk0
      constructor
      · intro hk
        rw [e0]
        exact (PySem.strKind P w).inj e.2 k0 k hk0 hk
      · intro hk
        rw [← hk, e0]
        exact hk0
    refine p1.trans (TSet.perm nd ?_ fun x => ?_)
    · rw [List.length_map, Array.length_toList]
      exact F.sz
    · rw [F.mem x, List.mem_map]
      constructor
      · rintro ⟨e, he, q⟩
        exact ⟨e, he, (key e he x).mp q⟩
      · rintro ⟨e, he, q⟩
        exact ⟨e, he, (key e he x).mpr q⟩
end
end LH

namespace LH
open PySem PySem.Spec PyProof.Rows L2
/-- an expression that changes nothing, by its value -/
def tPure (t : TE) : TE := fun σ H Q => ∃ v, t σ H (fun x H' => x = v ∧ H' = H) ∧ Q v H
theorem pe_pure {X : Cx} {e : Expr} {t : TE} (h : PE X e t) : PE X e (tPure t) := by
  refine ⟨fun pins s σ H Q I q => ?_⟩
  obtain ⟨v, h1, h2⟩ := q
  refine thn (h.run pins s σ H _ I h1) fun u s1 ⟨x, H1, I1, r, e1, e2⟩ => ?_
  subst e1
  subst e2
  exact ⟨x, H1, I1, r, h2⟩
/-! ### a new pair at each turn -/
def Itp (n : Nat) (xs ys : Nat → Option V) : It := ⟨fun i _ => i < n, YPair xs ys, fun i _ => i = n⟩
theorem walk_Itp {n : Nat} {xs ys : Nat → Option V} : Walk (Itp n xs ys) n (fun _ => True) (YPair xs ys) := ⟨fun _ _ h _ => h, fun _ _ => rfl, fun _ _ _ _ _ _ y => y⟩
/-- a walk that hands out pairs of its own, as a turn -/
theorem turn_T {P : Program} {w : World} {K : PySem.W.Frag} {elts : List Expr} {kk n : Nat} {tpos : Pos} {xs ys : Nat → Option V} {it : Addr} {fp wr : List Addr} {Pt : Nat → Array Value → Prop} {St : Nat → Heap → Prop} {Mid : Nat → Addr → Heap → Prop}
    (W : ∀ A : Around, A.handled = none → WalksT P w A it fp wr n Pt St Mid) (hit : it ∈ fp) (ob : ∀ i h, St i h → ∀ b ∈ fp, ∃ o, h.get? b = some o ∧ ∀ v, o.data ≠ .cell v)
    (hp : ∀ i vals, Pt i vals → ∃ x y u v, vals = #[u, v] ∧ xs i = some x ∧ ys i = some y ∧ RelV x u ∧ RelV y v)
    (sf : ∀ (A : Around) (i : Nat) (s : Shared) (Q : Value → Shared → Prop) (E : Value → Shared → Prop), St i s.heap → Q (.ref it) s → wpAny (model P w) A (pyIter (.ref it)) Q E s) :
    Turn P w K (.Tuple elts kk tpos) (Itp n xs ys) fp it St where
  mem := hit
  obj := ob
  keep := fun i h h' st k => (W {} rfl).frame i h h' st k
  item := by
    intro X hP hw hK hc i pins s σ H E I hf st hg
    subst hP hw hK
    have W0 := W X.A (I.ok.hd hc)
    refine W0.item i s _ _ hg st fun T vals h1 tk hv hT tup mid k1 => ?_
    obtain ⟨x, y, u, v, rfl, ex, ey, rx, ry⟩ := hp i vals hv
    refine ⟨_, rfl, W0.go elts kk tpos i T _ _ _ mid fun h2 st2 k2 => ?_⟩
    have tup2 : h2.IsTuple T #[u, v] := tup.at fun o q => k2 T o (W0.apart i T h1 mid) q
    have I1 : Inv X pins σ (upd H T (.tup [x, y])) { s with heap := h2, toks := tk } :=
      I.turnedNew (ch := wr) (fun b o hb q => k2 b o hb (k1 b o hb q)) (fun b hb => hf b (W0.sub b hb)) hT ⟨by show 2 ≤ sizeLine; decide, [u, v], .cons rx (.cons ry .nil), tup2⟩
    refine ⟨.ref T, _, I1, rfl, ⟨T, x, y, rfl, I.hok.fresh hT, rfl, ex, ey⟩, st2, fun b hb => ?_⟩
    obtain ⟨o, q, _⟩ := ob i s.heap st b hb
    rw [upd_ne (Nat.ne_of_lt (Nat.lt_of_lt_of_le (Heap.lt_size q) hT))]
    exact (hf b hb).1
  done := by
    intro X hP hw hK hc i pins s σ H E I hf st hg
    subst hP hw hK
    have W0 := W X.A (I.ok.hd hc)
    obtain rfl : i = n := hg
    exact W0.done s _ _ st fun h1 tk k1 => ⟨rfl, I.turnedL (ch := wr) (fun b o hb q => k1 b o hb q) fun b hb => hf b (W0.sub b hb)⟩
  self := sf
/-! ### enumerate(text) -/
def signAt (z : Str) (i : Nat) : Option V := (z.cps[i]?).map fun c => .str ⟨#[c]⟩
def iEnumS (ta : TA) : TI := fun σ H R => ta σ H fun vs H1 => ∃ z : Str, vs = [.str z] ∧ R (Itp z.cps.size (fun i => some (.int (i : Nat))) (signAt z)) H1
theorem pi_enumS {X : Cx} {e : Expr} {ta : TA} {p pos tpos : Pos} {elts : List Expr} {kk : Nat} (hg : Gl X "enumerate") (hm : X.mg "enumerate" = none) (ha : PA X [e] ta) (hs : starEach [e] X.env = [(false, eval e X.env)] := by rfl) :
    PI X (.Tuple elts kk tpos) (.Call (.Name "enumerate" p) [e] [] pos) (iEnumS ta) := by
  refine ⟨fun pins s σ H R I h => ?_⟩
  refine Call_ (ld_blt I hg hm boot_enumerate (PyProof.Rows.callWith_type1 (thn (ha.run pos pins s σ H _ I h) fun us s1 ⟨vs, H1, I1, r1, q1⟩ => ?_) hs rfl))
  obtain ⟨z, ex, q⟩ := q1
  subst ex
  obtain ⟨u, rfl, rx⟩ := vals1 r1
  obtain ⟨t, rfl⟩ := rx
  refine call_enumerate_str fun h1 he hi hsz k1 => wpAny_pyIter_enum he ?_
  have I2 : Inv X pins σ H1 { s1 with heap := h1 } := I1.kept (t' := s1.toks) k1
  have hne : s1.heap.objs.size + 1 ≠ s1.heap.objs.size := Nat.succ_ne_self _
  refine ⟨s1.heap.objs.size + 1, [s1.heap.objs.size + 1, s1.heap.objs.size], _, _, H1, rfl, I2,
    turn_T (St := fun i h => (∃ old, IsEnum h (s1.heap.objs.size + 1) s1.heap.objs.size i old) ∧ h.IsStrIter s1.heap.objs.size (strIterType z) z t i)
      (fun A hA => WalksT.enumerateD (Draws.text (A := A.in1) hA s1.heap.objs.size z t) (s1.heap.objs.size + 1) hne (by simp) (by simp)) (by simp) (fun i h st b hb => ?_) (fun i vals hv => ?_) (fun A i s Q E st hQ => ?_), ⟨⟨.none, he⟩, hi⟩, fun b hb => ?_, q⟩
  · obtain ⟨⟨old, e1⟩, ⟨o, e2, c2, d2⟩⟩ := st
    have e' : b = s1.heap.objs.size + 1 ∨ b = s1.heap.objs.size := by simpa using hb
    rcases e' with y | y
    · rw [y]
      exact ⟨_, e1, fun v q => nomatch q⟩
    · rw [y]
      exact ⟨o, e2, fun v q => by rw [d2] at q; cases q⟩
  · obtain ⟨t', x, ⟨c, u, hc, rfl⟩, rfl⟩ := hv
    refine ⟨.int (i : Nat), .str ⟨#[c]⟩, _, _, rfl, rfl, ?_, ⟨_, rfl⟩, ⟨_, rfl⟩⟩
    unfold signAt
    rw [hc]
    rfl
  · obtain ⟨⟨old, e1⟩, _⟩ := st
    exact wpAny_pyIter_enum e1 hQ
  · have e' : b = s1.heap.objs.size + 1 ∨ b = s1.heap.objs.size := by simpa using hb
    have hle : s1.heap.objs.size ≤ b := by
      rcases e' with y | y
      · rw [y]
        exact Nat.le_add_right _ _
      · rw [y]
        exact Nat.le_refl _
    exact I1.fpOk hle (I1.hok.fresh hle)
/-! ### the set rules -/
/-- the set of the texts l at a -/
def SetT (P : Program) (w : World) (a : Addr) (l : List Str) : HO := .ext (TSet P w a l)
section
variable {X : Cx}
theorem setT_new {P : Program} {w : World} {H : Hp} {h : Heap} {a : Addr} {l : List Str} (T : TSet P w a l h) : ObjOk P w H h a (SetT P w a l) := by
  have ⟨_, D, e, _⟩ := T
  exact ⟨T, ⟨_, e⟩, fun h1 h2 p k => p.at k⟩
/-- set(xs), texts; the set stays nowhere but here -/
def rSetL (P : Program) (w : World) (K : PySem.W.Frag) : List V → Hp → VK → Prop := fun xs H Q => ∃ (a : Addr) (ys : List Str), xs = [.ref a] ∧ SqL K H a (ys.map V.str) ∧ ys.length ≤ 4000 ∧ ∀ p, H p = none → Q (.ref p) (upd H p (SetT P w p (tAll ys)))
theorem cr_setL (hc : X.calm = true) : CallR X (.type "set") (rSetL X.prog X.w X.K) := by
  intro pins s σ H xs us Q I r h
  obtain ⟨a, ys, rfl, hs, hl, q⟩ := h
  obtain ⟨its, rv, pl, _⟩ := I.list hs
  rw [Vals.ref1 r]
  have hlen := rv.length
  rw [List.length_map] at hlen
  refine call_setT (I.ok.hd hc) pl.isList (by simpa using rv.strs) (by rw [List.size_toArray, ← hlen]; unfold scanBound; omega) fun h1 tk T k1 => ?_
  refine ⟨.ref s.heap.objs.size, _, I.laid (t' := tk) (fun b o e => k1 b o (Heap.lt_size e) e) (Nat.le_refl _) (setT_new T), rfl, q _ (I.hok.fresh (Nat.le_refl _))⟩
/-- sorted(found) -/
def rSortT (P : Program) (w : World) : List V → Hp → VK → Prop := fun xs H Q => ∃ (a : Addr) (l : List Str), xs = [.ref a] ∧ H a = some (SetT P w a l) ∧ l.length ≤ 4000 ∧ ∀ ys p, ys.Perm l → sortedS ys = true → H p = none → Q (.ref p) (upd H p (.lst (ys.map V.str)))
theorem cr_sortT (hc : X.calm = true) : CallR X (.builtin "sorted") (rSortT X.prog X.w) := by
  intro pins s σ H vs us Q I r h
  obtain ⟨a, l, rfl, ha, hl, q⟩ := h
  have T : TSet X.prog X.w a l s.heap := (I.hok a _ ha).1
  rw [Vals.ref1 r]
  refine call_sortedT T (I.ok.hd hc) (by unfold scanBound; omega) fun s' p out c ys k g o hp hg hi pm hs => ?_
  have hlen : (ys.map V.str).length ≤ sizeLine := by
    rw [List.length_map, pm.length_eq]
    exact Nat.le_trans hl (by decide)
  have hn : H p = none := I.hok.fresh hp
  have J : Inv X pins σ (upd H p (.lst (ys.map V.str))) { s with heap := s'.heap, gens := s'.gens, drawn := s'.drawn, toks := s'.toks } :=
    I.call (ch := []) (Un.laid k hp hn) (I.hok.laid k hp ⟨hlen, out.toList, c, vals_of_strs hi, hg⟩) (by rw [g]; exact I.bare) (fun _ z => nomatch z)
  have e : s' = { s with heap := s'.heap, gens := s'.gens, drawn := s'.drawn, toks := s'.toks } := by
    cases s'
    cases s
    cases o
    rfl
  rw [e]
  exact ⟨.ref p, _, J, rfl, q ys p pm hs hn⟩
end
section
variable {X : Cx} (P : Program) (w : World) (K : PySem.W.Frag) (hP : X.prog = P) (hw : X.w = w) (hK : X.K = K) (hc : X.calm = true)
include hP hw hc
theorem cr_sortTK : CallR X (.builtin "sorted") (rSortT P w) := by subst hP hw; exact cr_sortT hc
include hK
theorem cr_setLK : CallR X (.type "set") (rSetL P w K) := by subst hP hw hK; exact cr_setL hc
end
/-! ### what is sorted and has no text twice is told by its members -/
theorem sortedS_pw : ∀ {l : List Str}, sortedS l = true → l.Pairwise fun a b => ltCps b.cps.toList a.cps.toList = false := by
  have tr : ∀ a b c : List Nat, ltCps b a = false → ltCps c b = false → ltCps c a = false := fun a b c h1 h2 => by
    rw [ltCps_eq] at h1 h2 ⊢
    have h1 := of_decide_eq_false h1
    have h2 := of_decide_eq_false h2
    exact decide_eq_false fun h => h1 (Std.lt_of_le_of_lt (Std.not_lt.mp h2) h)
  have go : ∀ (l : List Str) (p : Str), risingS p l = true → (p :: l).Pairwise fun a b => ltCps b.cps.toList a.cps.toList = false := by
    intro l
    induction l with
    | nil => intro p _; exact List.pairwise_singleton _ _
    | cons x r ih =>
      intro p h
      have h : (!ltCps x.cps.toList p.cps.toList && risingS x r) = true := h
      rw [Bool.and_eq_true] at h
      have i := ih x h.2
      have h1 : ltCps x.cps.toList p.cps.toList = false := by simpa using h.1
      refine List.Pairwise.cons (fun y hy => ?_) i
      rcases List.mem_cons.mp hy with rfl | hy
      · exact h1
      · exact tr _ _ _ h1 (List.rel_of_pairwise_cons i hy)
  intro l h
  cases l with
  | nil => exact List.Pairwise.nil
  | cons x r => exact go r x h
theorem sorted_one {l m : List Str} (h1 : sortedS l = true) (h2 : sortedS m = true) (p : l.Perm m) : l = m := by
  refine List.Perm.eq_of_pairwise (le := fun a b => ltCps b.cps.toList a.cps.toList = false) (fun a b _ _ q1 q2 => ?_) (sortedS_pw h1) (sortedS_pw h2) p
  rw [ltCps_eq] at q1 q2
  have q1 := of_decide_eq_false q1
  have q2 := of_decide_eq_false q2
  have e : a.cps.toList = b.cps.toList := Std.le_antisymm (Std.not_lt.mp q1) (Std.not_lt.mp q2)
  obtain ⟨⟨a⟩⟩ := a
  obtain ⟨⟨b⟩⟩ := b
  have e : a = b := e
  rw [e]
end LH

namespace LH
open PySem PySem.Spec PyProof.Rows L2
/-! ### text[::b] -/
def stepS0 (z : Str) (b : Int) : Str := ⟨((Builtin.Str.strSliceIndices none none b z.length).filterMap (z.cps[·]?)).toArray⟩
def tStepS0 (te : TE) (tl ts : TO) : TE := fun σ H Q => te σ H fun x H1 => tl σ H1 fun l H2 => ts σ H2 fun o H3 =>
  ∃ (z : Str) (b : Int), x = .str z ∧ l = none ∧ o = some b ∧ b ≠ 0 ∧ (stepS0 z b).length ≤ sizeLine ∧ (b = 1 → (Builtin.Str.strSliceIndices none none b z.length).length = z.length → stepS0 z b = z) ∧ Q (.str (stepS0 z b)) H3
theorem pe_stepS0 {X : Cx} {e : Expr} {lo : Option Expr} {st : Expr} {te : TE} {tl ts : TO} {p3 pos : Pos} (he : PE X e te) (hl : PO X lo tl) (hs : PO X (some st) ts) : PE X (.Subscript e (.Slice lo none (some st) p3) pos) (tStepS0 te tl ts) := by
  refine ⟨fun pins s σ H Q I h => ?_⟩
  refine Subscript_ (thn (he.run pins s σ H _ I h) fun v s1 ⟨x, H1, I1, r1, q1⟩ => ?_)
  refine wpAny_Slice (thn (hl.run pins s1 σ H1 _ I1 q1) fun vl s2 ⟨l, H2, I2, pl, q2⟩ => ?_)
  refine thn (po_none.run pins s2 σ H2 (fun o H3 => o = none ∧ H3 = H2) I2 ⟨rfl, rfl⟩) fun vu s3 ⟨u, H3, I3, pu, eu, e3⟩ => ?_
  subst eu e3
  refine thn (hs.run pins s3 σ H3 _ I3 q2) fun vs s4 ⟨o, H4, I4, ps, q4⟩ => ?_
  obtain ⟨z, b, ex, ea, eb, hb, hz, hw, q⟩ := q4
  subst ex ea eb
  obtain ⟨t, rfl⟩ := r1
  have I5 : Inv X pins σ H4 { s4 with heap := s4.heap.push { cls := .type "slice", data := .fields #[vl, vu, vs] } } := I4.kept (t' := s4.toks) fun b ob q => Heap.get?_push_of_some _ q
  obtain ⟨l', rfl, hl'⟩ := IsPart.raw pl
  obtain ⟨u', rfl, hu'⟩ := IsPart.raw pu
  obtain ⟨st', rfl, hs'⟩ := IsPart.raw ps
  have eu : u' = none := by cases u' <;> simp_all
  subst eu
  have el : l' = none := by cases l' <;> simp_all
  subst el
  obtain ⟨c2, d2, rfl⟩ : ∃ c d, st' = some (c, d) := by
    cases st' with
    | none => simp at hs'
    | some p => exact ⟨p.1, p.2, rfl⟩
  have e2 : b = c2 := by simpa using hs'.symm
  subst e2
  refine tail_any (ops := [.str z t, .ref s4.heap.objs.size]) (typeIs_str _ _ _) F.slot_str_getitem.lookup ?_ (by with_unfolding_all rfl)
  refine wpAny_getItem_str_slice (l := none) (u := none) (st := some (b, d2)) ⟨_, Heap.get?_push_size _ rfl, rfl, rfl⟩ (by simpa using hb) ?_
  show Made.post (if (b == 1 && (Builtin.Str.strSliceIndices none none b z.length).length == z.length) = true then Made.val (.str z t) else Made.str (stepS0 z b)) (EP X pins σ Q) _
  by_cases hc : (b == 1 && (Builtin.Str.strSliceIndices none none b z.length).length == z.length) = true
  · rw [if_pos hc]
    rw [Bool.and_eq_true] at hc
    have ez := hw (by simpa using hc.1) (by simpa using hc.2)
    rw [ez] at q
    exact ⟨.str z, H4, I5, ⟨_, rfl⟩, q⟩
  · rw [if_neg hc]
    exact ⟨hz, .str _, H4, I5.tok _, ⟨_, rfl⟩, q⟩
end LH

namespace LU
open PySem PySem.Spec PyProof.Rows L2 LH
def tMidT (t : TT) : TT := fun σ H Q => ∃ M : Bool → Hp → Prop, t σ H M ∧ ∀ c H', M c H' → Q c H'
/-- a test of which some ways end alike -/
theorem pt_midU {X : Cx} {e : Expr} {t : TT} (h : PT X e t) : PT X e (tMidT t) := ⟨fun pins s σ H Q I q => by
  obtain ⟨M, h1, h2⟩ := q
  exact thn (h.run pins s σ H M I h1) fun b s1 ⟨H1, I1, m⟩ => ⟨H1, I1, h2 b H1 m⟩⟩
end LU

namespace LU
open PySem PySem.Spec PyProof.Rows
/-! ### dicts whose keys are None, numbers, texts and tuples of these, nested -/
abbrev Row3 := NestedKey × Value × Value
def ent (w : World) (x : Row3) : DictEntry := ⟨x.1.hash w, x.2.1, x.2.2⟩
structure UD (w : World) (h : Heap) (d : Addr) (xs : List Row3) (o : Obj) (es : Array DictEntry) (ep : Nat) : Prop where
  get : h.get? d = some o
  exact_ : o.ExactDict
  data : o.data = .dict es ep
  ents : es.toList = xs.map (ent w)
  keys : ∀ x ∈ xs, NestedIs h x.1 x.2.1 ∧ x.1.depth ≤ 8
  nd : (xs.map (·.1)).Nodup
def pos (xs : List Row3) (k : NestedKey) : Option Nat := xs.findIdx? fun x => decide (x.1 = k)
theorem pos_some {xs : List Row3} (nd : (xs.map (·.1)).Nodup) {i : Nat} {x : Row3} (h : xs[i]? = some x) : pos xs x.1 = some i := by
  unfold pos
  rw [List.findIdx?_eq_some_iff_getElem]
  obtain ⟨hi, e⟩ := List.getElem?_eq_some_iff.mp h
  refine ⟨hi, by rw [e]; exact decide_eq_true rfl, fun j hj => ?_⟩
  have hjl : j < xs.length := Nat.lt_trans hj hi
  intro q
  have q : xs[j].1 = x.1 := of_decide_eq_true q
  have a1 : (xs.map (·.1))[j]? = some x.1 := by rw [List.getElem?_map, List.getElem?_eq_getElem hjl, Option.map_some, q]
  have a2 : (xs.map (·.1))[i]? = some x.1 := by rw [List.getElem?_map, h]; rfl
  have := (List.getElem?_inj (by rw [List.length_map]; exact hjl) nd).mp (a1.trans a2.symm)
  omega
theorem pos_none {xs : List Row3} {k : NestedKey} (h : ∀ x ∈ xs, ¬ x.1 = k) : pos xs k = none := List.findIdx?_eq_none_iff.mpr fun x hx => decide_eq_false (h x hx)
section
variable {prog : Program} {w : World} {A : Around} {E : Value → Shared → Prop} {s : Shared} {d : Addr} {xs : List Row3} {o : Obj} {es : Array DictEntry} {ep : Nat} {k : NestedKey} {key : Value}
theorem UD.at_ {h : Heap} (u : UD w h d xs o es ep) (j : Nat) : es[j]? = (xs[j]?).map (ent w) := by
  rw [← Array.getElem?_toList, u.ents, List.getElem?_map]
theorem UD.size {h : Heap} (u : UD w h d xs o es ep) : es.size = xs.length := by
  rw [← Array.length_toList, u.ents, List.length_map]
/-- where a key of this hash may stand -/
abbrev plc (es : Array DictEntry) (h : Int) : List Nat := placesWithHash es.size (fun i => es[i]?.map (·.hash)) h
theorem mem_plc {h : Heap} (u : UD w h d xs o es ep) {j : Nat} {x : Row3} (e : xs[j]? = some x) : j ∈ plc es (x.1.hash w) := by
  refine List.mem_filter.mpr ⟨List.mem_range.mpr ?_, ?_⟩
  · rw [u.size]
    exact (List.getElem?_eq_some_iff.mp e).1
  · show ((es[j]?.map (·.hash)) == some (x.1.hash w)) = true
    rw [u.at_, e]
    exact beq_self_eq_true _
theorem nd_plc (es : Array DictEntry) (h : Int) : (plc es h).Nodup := List.nodup_range.filter _
/-- the way through the places, all by value -/
theorem walk_plain {Q : Option Nat → Shared → Prop} (hu : A.units + 8 < cLine) (u : UD w s.heap d xs o es ep) (hk : NestedIs s.heap k key) (hd8 : k.depth ≤ 8) (h : Q (pos xs k) s) :
    wpAny (model prog w) A (dictWalkPlain d key (k.hash w) es (plc es (k.hash w))) Q E s := by
  unfold dictWalkPlain
  refine wpAny_bind ?_
  refine wpAny_forIn_list _ (fun rest b s' => s' = s ∧ b = (none, ()) ∧ ∀ (j : Nat) (x : Row3), xs[j]? = some x → x.1 = k → j ∈ rest) _ ?_ ?_ _ _ ⟨rfl, rfl, fun j x e ek => by rw [← ek]; exact mem_plc u e⟩
  · rintro i rest b s' ⟨rfl, rfl, hr⟩
    rw [u.at_]
    cases hx : xs[i]? with
    | none =>
      refine wpAny_pure ⟨rfl, rfl, fun j x e ek => ?_⟩
      rcases List.mem_cons.mp (hr j x e ek) with rfl | q
      · rw [hx] at e
        cases e
      · exact q
    | some y =>
      have on : ¬ y.1 = k → ∀ (j : Nat) (x : Row3), xs[j]? = some x → x.1 = k → j ∈ rest := fun ne j x e ek => by
        rcases List.mem_cons.mp (hr j x e ek) with rfl | q
        · rw [hx] at e
          cases e
          exact absurd ek ne
        · exact q
      dsimp only [Option.map_some]
      by_cases hh : ((ent w y).hash == k.hash w) = true
      · rw [if_pos hh]
        have hy := u.keys y (List.mem_of_getElem? hx)
        refine wpAny_bind (wpAny_dictEpoch u.get u.data (wpAny_bind (eqAt_key y.1 k A s' _ _ hy.1 hk (by omega) _ _ _ _ (wpAny_bind (wpAny_dictEpoch u.get u.data ?_)))))
        show wpAny _ _ (if (ep != ep) = true then _ else _) _ E _
        rw [if_neg (by simp), ← NestedKey.decide_eq]
        by_cases e : y.1 = k
        · rw [decide_eq_true e]
          subst e
          rw [pos_some u.nd hx] at h
          exact wpAny_bind (wpAny_rule (wpAny_pure (wpAny_pure h)))
        · rw [decide_eq_false e]
          exact wpAny_bind (wpAny_rule (wpAny_pure ⟨rfl, rfl, on e⟩))
      · rw [if_neg hh]
        refine wpAny_pure ⟨rfl, rfl, on fun e => hh ?_⟩
        show (y.1.hash w == k.hash w) = true
        rw [e]
        exact beq_self_eq_true _
  · rintro b s' ⟨rfl, rfl, hr⟩
    rw [pos_none fun x hx e => ?_] at h
    · exact wpAny_pure h
    · obtain ⟨j, hj⟩ := List.mem_iff_getElem?.mp hx
      cases hr j x hj e
end
end LU
namespace LU
open PySem PySem.Spec PyProof.Rows
section
variable {prog : Program} {w : World} {A : Around} {E : Value → Shared → Prop} {s : Shared} {d : Addr} {xs : List Row3} {o : Obj} {es : Array DictEntry} {ep : Nat} {k : NestedKey} {key : Value}
theorem fi_congr {p q : Row3 → Bool} : ∀ {xs : List Row3}, (∀ x ∈ xs, p x = q x) → xs.findIdx? p = xs.findIdx? q
  | [], _ => rfl
  | x :: r, h => by
    rw [List.findIdx?_cons, List.findIdx?_cons, h x List.mem_cons_self, fi_congr fun y hy => h y (List.mem_cons_of_mem _ hy)]
theorem found_val {x : Str} {t : Tok} {Q : Option Nat → Shared → Prop} (hu : A.units + 8 < cLine) (u : UD w s.heap d xs o es ep) (hs : ∀ y ∈ xs, isExactStrKey y.2.1 = true) (h : Q (pos xs (.text x)) s) :
    wpAny (model prog w) A (foundByValue d (.str x t) es x) Q E s := by
  have same : ∀ y ∈ xs, y.2.1.isStr x = decide (y.1 = .text x) := fun y hy => by
    have a := hs y hy
    have b := (u.keys y hy).1
    obtain ⟨k', v', z⟩ := y
    cases b with
    | text x' t' =>
      by_cases e : x' = x
      · subst e
        simp [Value.isStr]
      · have : ¬ NestedKey.text x' = NestedKey.text x := fun q => e (by injection q)
        rw [decide_eq_false this]
        simp [Value.isStr, e]
    | none => simp [isExactStrKey] at a
    | bool _ => simp [isExactStrKey] at a
    | int _ _ => simp [isExactStrKey] at a
    | tup _ _ _ _ => simp [isExactStrKey] at a
  have fi : (es.findIdx? fun e => e.key.isStr x) = pos xs (.text x) := by
    have : es.findIdx? (fun e => e.key.isStr x) = es.toList.findIdx? fun e => e.key.isStr x := by
      obtain ⟨l⟩ := es
      simp
    rw [this, u.ents, List.findIdx?_map]
    unfold pos
    exact fi_congr same
  unfold foundByValue
  rw [fi]
  cases hp : pos xs (.text x) with
  | none =>
    rw [hp] at h
    exact wpAny_pure h
  | some i =>
    rw [hp] at h
    obtain ⟨hi, e, _⟩ := List.findIdx?_eq_some_iff_getElem.mp hp
    have e : xs[i].1 = .text x := of_decide_eq_true e
    have hx : xs[i]? = some xs[i] := List.getElem?_eq_getElem hi
    dsimp only
    rw [u.at_, hx]
    have hy := u.keys _ (List.mem_of_getElem? hx)
    refine wpAny_bind (wpAny_dictEpoch u.get u.data (wpAny_bind (eqAt_key _ (.text x) A s _ _ hy.1 (.text x t) (by show A.units + min _ 0 < cLine; omega) _ _ _ _ (wpAny_bind (wpAny_dictEpoch u.get u.data ?_)))))
    show wpAny _ _ (if (ep != ep) = true then _ else _) _ E _
    rw [if_neg (by simp), ← NestedKey.decide_eq, decide_eq_true e]
    exact wpAny_bind (wpAny_rule (wpAny_pure h))
theorem may_tell {stored : List Value} {Q : Bool → Shared → Prop} (hk : NestedIs s.heap k key) (hd8 : k.depth ≤ 8) (hst : ∀ v ∈ stored, ∃ k', NestedIs s.heap k' v ∧ k'.depth ≤ 8) (h : Q false s) :
    wpAny (model prog w) A (tableMayTell key stored) Q E s := by
  unfold tableMayTell
  split
  · exact wpAny_pure h
  · refine wpAny_bind (quiet_key k key 8 s hk hd8 _ _ _ ?_)
    rw [Bool.not_true, if_neg Bool.false_ne_true]
    refine wpAny_bind ?_
    refine wpAny_forIn_list _ (fun rest b s' => s' = s ∧ b = (none, ()) ∧ ∀ v ∈ rest, v ∈ stored) _ ?_ ?_ _ _ ⟨rfl, rfl, fun _ q => q⟩
    · rintro v rest b s' ⟨rfl, rfl, hr⟩
      obtain ⟨k', a1, a2⟩ := hst v (hr v List.mem_cons_self)
      refine wpAny_bind (quiet_key k' v 8 s' a1 a2 _ _ _ ?_)
      rw [Bool.not_true, if_neg Bool.false_ne_true]
      exact wpAny_pure ⟨rfl, rfl, fun u q => hr u (List.mem_cons_of_mem _ q)⟩
    · rintro b s' ⟨rfl, rfl, _⟩
      exact wpAny_pure h
/-- a key is looked for -/
theorem find_u {Q : Option Nat → Shared → Prop} (hu : A.units + 8 < cLine) (u : UD w s.heap d xs o es ep) (hk : NestedIs s.heap k key) (hd8 : k.depth ≤ 8) (h : Q (pos xs k) s) :
    wpAny (model prog w) A (dictFind d key (k.hash w)) Q E s := by
  have row : ∀ e ∈ es, ∃ x ∈ xs, e = ent w x := fun e he => by
    have := Array.mem_toList_iff.mpr he
    rw [u.ents] at this
    obtain ⟨x, hx, q⟩ := List.mem_map.mp this
    exact ⟨x, hx, q.symm⟩
  have st : ∀ v ∈ (plc es (k.hash w)).filterMap (fun i => es[i]?.map (·.key)), ∃ k', NestedIs s.heap k' v ∧ k'.depth ≤ 8 := fun v hv => by
    obtain ⟨i, _, hi⟩ := List.mem_filterMap.mp hv
    rw [u.at_] at hi
    cases hx : xs[i]? with
    | none =>
      rw [hx] at hi
      cases hi
    | some x =>
      rw [hx] at hi
      have := u.keys x (List.mem_of_getElem? hx)
      cases hi
      exact ⟨x.1, this⟩
  have noch : ¬ (es.any fun e => e.key == key && e.hash != k.hash w) = true := fun z => by
    obtain ⟨e, he, q⟩ := Array.any_eq_true'.mp z
    obtain ⟨x, hx, rfl⟩ := row e he
    rw [Bool.and_eq_true, beq_iff_eq, bne_iff_ne] at q
    have a := (u.keys x hx).1
    rw [show x.2.1 = key from q.1] at a
    exact q.2 (congrArg (fun z => NestedKey.hash w z) (NestedIs.inj _ _ _ a hk))
  unfold dictFind
  with_reducible refine wpAny_holding ?_
  refine wpAny_bind (wpAny_dictEntries u.get u.data ?_)
  dsimp only
  have val : (key :: (plc es (k.hash w)).filterMap fun i => es[i]?.map (·.key)).all carriedByValue = true → wpAny (model prog w) A (dictWalkPlain d key (k.hash w) es (plc es (k.hash w))) Q E s := fun _ => walk_plain hu u hk hd8 h
  by_cases ex : ∃ x t, key = .str x t ∧ (es.all fun e => isExactStrKey e.key) = true
  · obtain ⟨x, t, rfl, a⟩ := ex
    dsimp only
    rw [if_pos a]
    cases hk
    refine found_val hu u (fun y hy => ?_) h
    rw [← Array.all_toList, List.all_eq_true] at a
    exact a (ent w y) (by rw [u.ents]; exact List.mem_map.mpr ⟨y, hy, rfl⟩)
  have step1 : ∀ (F : Str → Sem (Option Nat)) (G : Sem (Option Nat)), wpAny (model prog w) A G Q E s → wpAny (model prog w) A (match key with | .str x _ => if (es.all fun e => isExactStrKey e.key) = true then F x else G | _ => G) Q E s := fun F G q => by
    split
    · rw [if_neg fun a => ex ⟨_, _, rfl, a⟩]
      exact q
    · exact q
  refine step1 (fun x => foundByValue d key es x) _ ?_
  by_cases hall : (key :: (plc es (k.hash w)).filterMap fun i => es[i]?.map (·.key)).all carriedByValue = true
  · rw [if_pos hall]
    exact val hall
  rw [if_neg hall]
  have step2 : ∀ (F G : Sem (Option Nat)), wpAny (model prog w) A G Q E s → wpAny (model prog w) A (match key with | .ref _ => if (es.any fun e => e.key == key && e.hash != k.hash w) = true then F else G | _ => G) Q E s := fun F G q => by
    split
    · rw [if_neg noch]
      exact q
    · exact q
  refine step2 _ _ ?_
  by_cases one : (((plc es (k.hash w)).filterMap fun i => es[i]?.map (·.key)) == [key]) = true <;>
  (first | rw [if_pos one] | rw [if_neg one]) <;> (first | refine wpAny_bind (wpAny_pure ?_) | refine wpAny_bind (may_tell hk hd8 st ?_)) <;> (
    rw [if_neg (by simp)]
    refine wpAny_bind ?_
    refine wpAny_forIn_list _ (fun rest b s' => s' = s ∧ rest.Nodup ∧ ∃ hit, b = (none, hit) ∧ ((hit = none ∧ ∀ (j : Nat) (x : Row3), xs[j]? = some x → x.1 = k → j ∈ rest) ∨ ∃ j x, hit = some j ∧ xs[j]? = some x ∧ x.1 = k ∧ j ∉ rest)) _ ?_ ?_ _ _ ⟨rfl, nd_plc _ _, none, rfl, .inl ⟨rfl, fun j x e ek => by rw [← ek]; exact mem_plc u e⟩⟩
    · rintro i rest b s' ⟨rfl, ndr, hit, rfl, hr⟩
      obtain ⟨ni, ndr⟩ := List.nodup_cons.mp ndr
      have on : (∀ y, xs[i]? = some y → ¬ y.1 = k) → ((hit = none ∧ ∀ (j : Nat) (x : Row3), xs[j]? = some x → x.1 = k → j ∈ rest) ∨ ∃ j x, hit = some j ∧ xs[j]? = some x ∧ x.1 = k ∧ j ∉ rest) := fun ne => by
        rcases hr with ⟨a, b⟩ | ⟨j, x, a, b, c, e⟩
        · refine .inl ⟨a, fun j x e ek => ?_⟩
          rcases List.mem_cons.mp (b j x e ek) with rfl | q
          · exact absurd ek (ne x e)
          · exact q
        · exact .inr ⟨j, x, a, b, c, fun z => e (List.mem_cons_of_mem _ z)⟩
      rw [u.at_]
      cases hx : xs[i]? with
      | none => exact wpAny_pure ⟨rfl, ndr, hit, rfl, on fun y e => by rw [hx] at e; cases e⟩
      | some y =>
        dsimp only [Option.map_some]
        by_cases hh : ((ent w y).hash == k.hash w) = true
        · rw [if_pos hh]
          have hy := u.keys y (List.mem_of_getElem? hx)
          refine wpAny_bind (wpAny_dictEpoch u.get u.data (wpAny_bind (eqAt_key y.1 k A s' _ _ hy.1 hk (by omega) _ _ _ _ (wpAny_bind (wpAny_dictEpoch u.get u.data ?_)))))
          show wpAny _ _ (if (ep != ep) = true then _ else _) _ E _
          rw [if_neg (by simp), ← NestedKey.decide_eq]
          by_cases e : y.1 = k
          · rw [decide_eq_true e]
            subst e
            have h0 : hit = none := by
              rcases hr with ⟨a, _⟩ | ⟨j, x, a, b, c, e⟩
              · exact a
              · exfalso
                have e1 := pos_some u.nd b
                have e2 := pos_some u.nd hx
                rw [c, e2] at e1
                cases e1
                exact e List.mem_cons_self
            subst h0
            rw [if_pos rfl, if_neg (by simp)]
            refine wpAny_bind (wpAny_rule ?_)
            split
            · rw [pos_some u.nd hx] at h
              exact wpAny_pure (wpAny_pure h)
            · exact wpAny_pure ⟨rfl, ndr, some i, rfl, .inr ⟨i, y, rfl, hx, rfl, ni⟩⟩
          · rw [decide_eq_false e, if_neg Bool.false_ne_true]
            refine wpAny_bind (wpAny_rule ?_)
            rw [if_neg (by simp)]
            exact wpAny_pure ⟨rfl, ndr, hit, rfl, on fun y' e' => by rw [hx] at e'; cases e'; exact e⟩
        · rw [if_neg hh]
          refine wpAny_pure ⟨rfl, ndr, hit, rfl, on fun y' e' ek => hh ?_⟩
          rw [hx] at e'
          cases e'
          show (y.1.hash w == k.hash w) = true
          rw [ek]
          exact beq_self_eq_true _
    · rintro b s' ⟨rfl, _, hit, rfl, hr⟩
      rcases hr with ⟨rfl, b⟩ | ⟨j, x, rfl, b, c, _⟩
      · rw [pos_none fun x hx e => ?_] at h
        · exact wpAny_pure h
        · obtain ⟨j, hj⟩ := List.mem_iff_getElem?.mp hx
          cases b j x hj e
      · subst c
        rw [pos_some u.nd b] at h
        exact wpAny_pure h)
end
end LU
namespace LU
open PySem PySem.Spec PyProof.Rows
def valU (xs : List Row3) (k : NestedKey) : Option Value := (pos xs k).bind fun i => (xs[i]?).map (·.2.2)
def setU (xs : List Row3) (k : NestedKey) (key v : Value) : List Row3 :=
  match pos xs k with
  | some i => xs.modify i fun x => (x.1, x.2.1, v)
  | none => xs ++ [(k, key, v)]
theorem pos_is {xs : List Row3} {k : NestedKey} {i : Nat} (h : pos xs k = some i) : ∃ x, xs[i]? = some x ∧ x.1 = k := by
  obtain ⟨hi, e, _⟩ := List.findIdx?_eq_some_iff_getElem.mp h
  exact ⟨_, List.getElem?_eq_getElem hi, of_decide_eq_true e⟩
section
variable {prog : Program} {w : World} {A : Around} {E : Value → Shared → Prop} {s : Shared} {d : Addr} {xs : List Row3} {o : Obj} {es : Array DictEntry} {ep : Nat} {k : NestedKey} {key : Value}
theorem keys_on {h h' : Heap} {x : NestedKey × Value} (u : UD w h d xs o es ep) (hs : Heap.SameBut d h h') (q : NestedIs h x.1 x.2 ∧ x.1.depth ≤ 8) : NestedIs h' x.1 x.2 ∧ x.1.depth ≤ 8 := by
  refine ⟨NestedIs.at (fun b ob vs n hb hc => ?_) _ _ q.1, q.2⟩
  by_cases e : b = d
  · subst e
    rw [u.get] at hb
    cases hb
    rw [u.data] at hc
    cases hc
  · exact (hs.2 b e).trans hb
theorem get_u {Q : Option Value → Shared → Prop} (hu : A.units + 8 < cLine) (u : UD w s.heap d xs o es ep) (hk : NestedIs s.heap k key) (hd8 : k.depth ≤ 8) (h : Q (valU xs k) { s with toks := s.toks + k.draws }) : wpAny (model prog w) A (dictGet d key) Q E s := by
  unfold dictGet
  with_reducible refine wpAny_holding ?_
  refine wpAny_bind (pyHash_key k key A s _ hk (by omega) (wpAny_bind (find_u (s := { s with toks := s.toks + k.draws }) hu u hk hd8 ?_)))
  unfold valU at h
  cases hp : pos xs k with
  | none =>
    rw [hp] at h
    exact wpAny_pure h
  | some i =>
    rw [hp] at h
    obtain ⟨x, hx, _⟩ := pos_is hp
    refine wpAny_bind (wpAny_dictEntries (s := { s with toks := s.toks + k.draws }) u.get u.data ?_)
    rw [u.at_, hx]
    rw [Option.bind_some, hx] at h
    exact wpAny_pure h
theorem UD.type {s : Shared} (u : UD w s.heap d xs o es ep) : s.TypeIs (.ref d) "dict" := ⟨o, u.get, u.exact_.1⟩
theorem set_u {v : Value} {Q : Unit → Shared → Prop} (hu : A.units + 8 < cLine) (u : UD w s.heap d xs o es ep) (hk : NestedIs s.heap k key) (hd8 : k.depth ≤ 8) (hsz : xs.length ≤ sizeLine)
    (h : ∀ h' o' es' ep', UD w h' d (setU xs k key v) o' es' ep' → Heap.SameBut d s.heap h' → Q () { s with heap := h', toks := s.toks + k.draws }) : wpAny (model prog w) A (dictSet d key v) Q E s := by
  unfold dictSet
  with_reducible refine wpAny_holding ?_
  refine wpAny_bind (pyHash_key k key A s _ hk (by omega) ?_)
  unfold dictSetHashed
  with_reducible refine wpAny_holding ?_
  refine wpAny_bind (find_u (s := { s with toks := s.toks + k.draws }) hu u hk hd8 ?_)
  cases hp : pos xs k with
  | none =>
    refine wpAny_bind (wpAny_rule (wpAny_updateDictKeys (hz := by have e := u.size; omega) (s := { s with toks := s.toks + k.draws }) u.get u.data (h _ _ _ (ep + 1) ⟨Heap.get?_update_self _ u.get (Obj.isFreed_of_dict (Obj.data_mapDictKeys u.data _)), u.exact_.mapDictKeys _, Obj.data_mapDictKeys u.data _, ?_, ?_, ?_⟩ (Heap.SameBut.update ..))))
    all_goals unfold setU
    all_goals rw [hp]
    · rw [Array.toList_push, u.ents, List.map_append]
      rfl
    · intro x hx
      rcases List.mem_append.mp hx with q | q
      · exact keys_on (x := (x.1, x.2.1)) u (Heap.SameBut.update ..) (u.keys x q)
      · rw [List.mem_singleton.mp q]
        exact keys_on (x := (k, key)) u (Heap.SameBut.update ..) ⟨hk, hd8⟩
    · show ((xs ++ [(k, key, v)]).map (·.1)).Nodup
      rw [List.map_append]
      refine List.nodup_append.mpr ⟨u.nd, by simp, fun a ha b hb e => ?_⟩
      rw [List.map_singleton, List.mem_singleton] at hb
      obtain ⟨x, hx, rfl⟩ := List.mem_map.mp ha
      have := List.findIdx?_eq_none_iff.mp hp x hx
      exact absurd (e.trans hb) (of_decide_eq_false this)
  | some i =>
    obtain ⟨x, hx, hxk⟩ := pos_is hp
    refine wpAny_bind (wpAny_rule (wpAny_bind (wpAny_updateDict (s := { s with toks := s.toks + k.draws }) u.get u.data (wpAny_point (h _ _ _ ep ⟨Heap.get?_update_self _ u.get (Obj.isFreed_of_dict (Obj.data_mapDict u.data _)), u.exact_.mapDict _, Obj.data_mapDict u.data _, ?_, ?_, ?_⟩ (Heap.SameBut.update ..))))))
    all_goals unfold setU
    all_goals rw [hp]
    · refine List.ext_getElem? fun j => ?_
      rw [Array.toList_modify, u.ents, List.getElem?_map, List.getElem?_modify, List.getElem?_modify, List.getElem?_map]
      cases xs[j]? with
      | none => rfl
      | some y =>
        by_cases e : i = j
        · simp [e, ent]
        · simp [e, ent]
    · intro y hy
      obtain ⟨j, hj⟩ := List.mem_iff_getElem?.mp hy
      rw [List.getElem?_modify] at hj
      cases hz : xs[j]? with
      | none =>
        rw [hz] at hj
        cases hj
      | some z =>
        rw [hz] at hj
        have kz : ∀ f : Obj → Obj, NestedIs (s.heap.update d f) z.1 z.2.1 ∧ z.1.depth ≤ 8 := fun f => keys_on (x := (z.1, z.2.1)) u (Heap.SameBut.update _ _ f) (u.keys z (List.mem_of_getElem? hz))
        by_cases e : i = j
        · simp [e] at hj
          subst hj
          exact kz _
        · simp [e] at hj
          subst hj
          exact kz _
    · have : ((xs.modify i fun x => (x.1, x.2.1, v)).map (·.1)) = xs.map (·.1) := by
        refine List.ext_getElem? fun j => ?_
        rw [List.getElem?_map, List.getElem?_map, List.getElem?_modify]
        cases xs[j]? with
        | none => rfl
        | some y =>
          by_cases e : i = j
          · simp [e]
          · simp [e]
      show ((xs.modify i fun x => (x.1, x.2.1, v)).map (·.1)).Nodup
      rw [this]
      exact u.nd
/-- key in d -/
theorem in_u {Q : Value → Shared → Prop} (hu : A.in1.units + 8 < cLine) (hd : (d == sysModules) = false) (u : UD w s.heap d xs o es ep) (hk : NestedIs s.heap k key) (hd8 : k.depth ≤ 8)
    (h : Q (.bool (valU xs k).isSome) { s with toks := s.toks + k.draws }) : wpAny (model prog w) A (compareOp .In key (.ref d)) Q E s := by
  show wpAny _ _ (do return .bool (← contains (.ref d) key)) Q E s
  refine wpAny_bind ?_
  unfold contains
  with_reducible refine wpAny_holding ?_
  refine wpAny_bind (wpAny_specialOf u.type slot_dict_contains.lookup ?_)
  show wpAny _ _ (if (some (Value.builtin "dict.__contains__") == some Value.none) = true then _ else _) _ E s
  rw [if_neg (by rw [beq_builtin_none]; exact Bool.false_ne_true)]
  refine wpAny_bind (wpAny_callSpecialUnlessNone?_slot (name := Str.ofString "__contains__") u.type slot_dict_contains (wpAny_call_entry slot_dict_contains u.type entry_dict_contains ?_ (args_dict_contains _ _)))
  show wpAny _ _ (dictGet d key >>= _) _ _ s
  refine wpAny_bind (get_u hu u hk hd8 ?_)
  cases hf : valU xs k with
  | some p =>
    rw [hf] at h
    show wpAny _ _ (ret (.bool true)) _ _ _
    exact wpAny_pure ⟨_, rfl, wpAny_truthy_bool (wpAny_pure h)⟩
  | none =>
    rw [hf] at h
    show wpAny _ _ (Builtin.Dict.pendingKey? d key >>= _) _ _ _
    exact wpAny_bind (wpAny_pendingKey_other hd (wpAny_pure ⟨_, rfl, wpAny_truthy_bool (wpAny_pure h)⟩))
/-- key not in d -/
theorem notIn_u {Q : Value → Shared → Prop} (hu : A.in1.units + 8 < cLine) (hd : (d == sysModules) = false) (u : UD w s.heap d xs o es ep) (hk : NestedIs s.heap k key) (hd8 : k.depth ≤ 8)
    (h : Q (.bool (!(valU xs k).isSome)) { s with toks := s.toks + k.draws }) : wpAny (model prog w) A (compareOp .NotIn key (.ref d)) Q E s := by
  show wpAny _ _ (do return .bool (!(← contains (.ref d) key))) Q E s
  refine wpAny_bind ?_
  unfold contains
  with_reducible refine wpAny_holding ?_
  refine wpAny_bind (wpAny_specialOf u.type slot_dict_contains.lookup ?_)
  show wpAny _ _ (if (some (Value.builtin "dict.__contains__") == some Value.none) = true then _ else _) _ E s
  rw [if_neg (by rw [beq_builtin_none]; exact Bool.false_ne_true)]
  refine wpAny_bind (wpAny_callSpecialUnlessNone?_slot (name := Str.ofString "__contains__") u.type slot_dict_contains (wpAny_call_entry slot_dict_contains u.type entry_dict_contains ?_ (args_dict_contains _ _)))
  show wpAny _ _ (dictGet d key >>= _) _ _ s
  refine wpAny_bind (get_u hu u hk hd8 ?_)
  cases hf : valU xs k with
  | some p =>
    rw [hf] at h
    show wpAny _ _ (ret (.bool true)) _ _ _
    exact wpAny_pure ⟨_, rfl, wpAny_truthy_bool (wpAny_pure h)⟩
  | none =>
    rw [hf] at h
    show wpAny _ _ (Builtin.Dict.pendingKey? d key >>= _) _ _ _
    exact wpAny_bind (wpAny_pendingKey_other hd (wpAny_pure ⟨_, rfl, wpAny_truthy_bool (wpAny_pure h)⟩))
/-- d[key] -/
theorem item_u {v : Value} {Q : Value → Shared → Prop} (hu : A.in1.units + 8 < cLine) (u : UD w s.heap d xs o es ep) (hk : NestedIs s.heap k key) (hd8 : k.depth ≤ 8) (hv : valU xs k = some v)
    (h : Q v { s with toks := s.toks + k.draws }) : wpAny (model prog w) A (getItem (.ref d) key) Q E s := by
  unfold getItem
  with_reducible refine wpAny_holding ?_
  refine wpAny_bind (wpAny_sequenceKey u.type (by decide) ?_)
  refine wpAny_bind (wpAny_callSpecial?_slot (name := Str.ofString "__getitem__") u.type slot_dict_getitem (wpAny_call_entry slot_dict_getitem u.type entry_dict_getitem ?_ (args_dict_getitem _ _)))
  show wpAny _ _ (dictGet d key >>= _) _ _ s
  refine wpAny_bind (get_u hu u hk hd8 ?_)
  rw [hv]
  exact wpAny_pure ⟨v, rfl, wpAny_pure h⟩
/-- d[key] = v -/
theorem setItem_u {v : Value} {Q : Unit → Shared → Prop} (hu : A.in1.units + 8 < cLine) (u : UD w s.heap d xs o es ep) (hk : NestedIs s.heap k key) (hd8 : k.depth ≤ 8) (hsz : xs.length ≤ sizeLine)
    (h : ∀ h' o' es' ep', UD w h' d (setU xs k key v) o' es' ep' → Heap.SameBut d s.heap h' → Q () { s with heap := h', toks := s.toks + k.draws }) : wpAny (model prog w) A (setItem (.ref d) key v) Q E s := by
  unfold setItem
  with_reducible refine wpAny_holding ?_
  refine wpAny_bind (wpAny_sequenceKey u.type (by decide) ?_)
  refine wpAny_bind (wpAny_callSpecial?_slot (name := Str.ofString "__setitem__") u.type slot_dict_setitem (wpAny_call_entry slot_dict_setitem u.type entry_dict_setitem ?_ (args_dict_setitem _ _ _)))
  show wpAny _ _ (Builtin.Dict.notOrdered "__setitem__" ⟨[.ref d, key, v], []⟩ >>= _) _ _ s
  refine wpAny_bind (wpAny_notOrdered_dict u.type ?_)
  show wpAny _ _ (dictSet d key v >>= _) _ _ s
  exact wpAny_bind (set_u hu u hk hd8 hsz fun h' o' es' ep' a b => wpAny_pure ⟨.none, rfl, wpAny_pure (h h' o' es' ep' a b)⟩)
end
end LU

namespace LU
open PySem PySem.Spec PyProof.Rows L2
/-! ### the same over the abstract heap -/
mutual
inductive NV (H : Hp) : NestedKey → V → Prop
  | none : NV H .none .non
  | num (i : Int) : NV H (.num i) (.int i)
  | text (x : Str) : NV H (.text x) (.str x)
  | tup {a : Addr} {vs : List V} {ks : List NestedKey} : H a = some (.tup vs) → NVs H ks vs → NV H (.tup ks) (.ref a)
inductive NVs (H : Hp) : List NestedKey → List V → Prop
  | nil : NVs H [] []
  | cons {k : NestedKey} {v : V} {ks : List NestedKey} {vs : List V} : NV H k v → NVs H ks vs → NVs H (k :: ks) (v :: vs)
end
mutual
theorem NV.mono {H H' : Hp} (t : ∀ b xs, H b = some (.tup xs) → H' b = some (.tup xs)) : ∀ {k : NestedKey} {v : V}, NV H k v → NV H' k v
  | _, _, .none => .none
  | _, _, .num i => .num i
  | _, _, .text x => .text x
  | _, _, .tup h q => .tup (t _ _ h) (NVs.mono t q)
theorem NVs.mono {H H' : Hp} (t : ∀ b xs, H b = some (.tup xs) → H' b = some (.tup xs)) : ∀ {ks : List NestedKey} {vs : List V}, NVs H ks vs → NVs H' ks vs
  | _, _, .nil => .nil
  | _, _, .cons a b => .cons (NV.mono t a) (NVs.mono t b)
end
mutual
theorem NV.is {P : Program} {w : World} {H : Hp} {h : Heap} (ok : HOk P w H h) : ∀ {k : NestedKey} {v : V}, NV H k v → ∀ {u : Value}, RelV v u → NestedIs h k u
  | _, _, .none, u, r => by
    obtain rfl : u = Value.none := r
    exact .none
  | _, _, .num i, u, r => by
    obtain ⟨t, rfl⟩ : ∃ t, u = Value.int i t := r
    exact .int i t
  | _, _, .text x, u, r => by
    obtain ⟨t, rfl⟩ : ∃ t, u = Value.str x t := r
    exact .text x t
  | _, _, .tup (a := a) hh q, u, r => by
    obtain rfl : u = Value.ref a := r
    obtain ⟨_, its, rv, o, h1, h2, n, h3⟩ := (show ObjOk P w H h a (.tup _) from ok a _ hh)
    exact .tup h1 h2 h3 (by simpa using NVs.is ok q rv)
theorem NVs.is {P : Program} {w : World} {H : Hp} {h : Heap} (ok : HOk P w H h) : ∀ {ks : List NestedKey} {vs : List V}, NVs H ks vs → ∀ {us : List Value}, Vals vs us → NestedAll h ks us
  | _, _, .nil, us, r => by
    cases r
    exact .nil
  | _, _, .cons a b, us, r => by
    cases r with
    | cons r1 r2 => exact .cons (NV.is ok a r1) (NVs.is ok b r2)
end
/-- a dict's rows: key, what was handed in as key, what stands there -/
abbrev Trio := NestedKey × V × V
abbrev RR : List Trio → List Row3 → Prop := Paired fun (p : Trio) (q : Row3) => p.1 = q.1 ∧ RelV p.2.1 q.2.1 ∧ RelV p.2.2 q.2.2
def UO (w : World) (d : Addr) (xs : List Trio) : HO := .ext fun h => xs.length ≤ sizeLine ∧ (d == sysModules) = false ∧ ∃ rs : List Row3, RR xs rs ∧ ∃ o es ep, h.get? d = some o ∧ o.ExactDict ∧ o.data = .dict es ep ∧ es.toList = rs.map (ent w) ∧ (rs.map (·.1)).Nodup
abbrev kvOf (xs : List Trio) : List (NestedKey × V) := xs.map fun x => (x.1, x.2.2)
/-- at d stands a dict with these keys and things -/
def UAt (w : World) (H : Hp) (d : Addr) (kvs : List (NestedKey × V)) : Prop := ∃ xs, H d = some (UO w d xs) ∧ (∀ x ∈ xs, NV H x.1 x.2.1 ∧ x.1.depth ≤ 8) ∧ kvOf xs = kvs
theorem UAt.mono {w : World} {H H' : Hp} {d : Addr} {kvs : List (NestedKey × V)} (u : UAt w H d kvs) (t : ∀ b xs, H b = some (.tup xs) → H' b = some (.tup xs)) (e : ∀ o, H d = some o → H' d = some o) : UAt w H' d kvs := by
  obtain ⟨xs, a, b, c⟩ := u
  exact ⟨xs, e _ a, fun x hx => ⟨(b x hx).1.mono t, (b x hx).2⟩, c⟩
theorem UAt.same {w : World} {H H' : Hp} {d : Addr} {kvs : List (NestedKey × V)} (u : UAt w H d kvs) (s : Same H H') : UAt w H' d kvs := u.mono (fun b xs h => s b _ h) fun o h => s d o h
theorem UAt.ne {w : World} {H : Hp} {d b : Addr} {kvs : List (NestedKey × V)} {o : HO} (u : UAt w H d kvs) (h : H b = some o) (no : ∀ φ, o ≠ .ext φ) : d ≠ b := by
  obtain ⟨xs, a, _, _⟩ := u
  rintro rfl
  rw [h] at a
  exact no _ (Option.some.inj a)
theorem UAt.ne_none {w : World} {H : Hp} {d b : Addr} {kvs : List (NestedKey × V)} (u : UAt w H d kvs) (h : H b = none) : d ≠ b := by
  obtain ⟨xs, a, _, _⟩ := u
  exact ne_of_none a h
theorem RR.len {xs : List Trio} {rs : List Row3} (r : RR xs rs) : xs.length = rs.length := Paired.length r
theorem RR.keys {xs : List Trio} {rs : List Row3} (r : RR xs rs) : xs.map (·.1) = rs.map (·.1) := by
  induction r with
  | nil => rfl
  | cons h t ih => rw [List.map_cons, List.map_cons, ih, h.1]
theorem RR.at_ {xs : List Trio} {rs : List Row3} (r : RR xs rs) : ∀ {i : Nat} {y : Row3}, rs[i]? = some y → ∃ x, xs[i]? = some x ∧ x.1 = y.1 ∧ RelV x.2.1 y.2.1 ∧ RelV x.2.2 y.2.2 := by
  induction r with
  | nil => intro i y e; simp at e
  | @cons p q ps qs h t ih =>
    intro i y e
    cases i with
    | zero =>
      cases e
      exact ⟨p, rfl, h⟩
    | succ i => exact ih (by simpa using e)
section
variable {P : Program} {w : World} {H : Hp} {h : Heap} {d : Addr} {kvs : List (NestedKey × V)}
theorem UAt.ud (u : UAt w H d kvs) (ok : HOk P w H h) : ∃ (xs : List Trio) (rs : List Row3) (o : Obj) (es : Array DictEntry) (ep : Nat), H d = some (UO w d xs) ∧ (∀ x ∈ xs, NV H x.1 x.2.1 ∧ x.1.depth ≤ 8) ∧ kvOf xs = kvs ∧ xs.length ≤ sizeLine ∧ (d == sysModules) = false ∧ RR xs rs ∧ UD w h d rs o es ep := by
  obtain ⟨xs, a, b, c⟩ := u
  obtain ⟨⟨z, hd, rs, rr, o, es, ep, h1, h2, h3, h4, h5⟩, _, _⟩ := (show ObjOk P w H h d (UO w d xs) from ok d _ a)
  refine ⟨xs, rs, o, es, ep, a, b, c, z, hd, rr, ⟨h1, h2, h3, h4, fun y hy => ?_, h5⟩⟩
  obtain ⟨i, hi⟩ := List.mem_iff_getElem?.mp hy
  obtain ⟨x, hx, e1, e2, _⟩ := rr.at_ hi
  obtain ⟨n1, n2⟩ := b x (List.mem_of_getElem? hx)
  rw [← e1]
  exact ⟨n1.is ok e2, n2⟩
theorem RR.val {xs : List Trio} {rs : List Row3} (r : RR xs rs) (k : NestedKey) : RelO (valV (kvOf xs) k) (valU rs k) := by
  have aux : ∀ {xs : List Trio} {rs : List Row3}, RR xs rs → RelO (valV (kvOf xs) k) ((rs.find? fun x => decide (x.1 = k)).map (·.2.2)) := by
    intro xs rs r
    induction r with
    | nil => exact True.intro
    | @cons p q ps qs h t ih =>
      obtain ⟨h1, _, h3⟩ := h
      by_cases e : p.1 = k
      · have e' : q.1 = k := h1.symm.trans e
        show RelO (valV ((p.1, p.2.2) :: kvOf ps) k) _
        rw [valV_pos (p := (p.1, p.2.2)) e, List.find?_cons, decide_eq_true e']
        exact h3
      · have e' : ¬ q.1 = k := fun z => e (h1.trans z)
        show RelO (valV ((p.1, p.2.2) :: kvOf ps) k) _
        rw [valV_neg (p := (p.1, p.2.2)) e, List.find?_cons, decide_eq_false e']
        exact ih
  have : valU rs k = (rs.find? fun x => decide (x.1 = k)).map (·.2.2) := by
    unfold valU pos
    clear r aux
    induction rs with
    | nil => rfl
    | cons y r ih =>
      rw [List.findIdx?_cons, List.find?_cons]
      by_cases e : y.1 = k
      · rw [decide_eq_true e]
        rfl
      · rw [decide_eq_false e]
        dsimp only
        rw [← ih]
        cases List.findIdx? (fun x => decide (x.1 = k)) r with
        | none => rfl
        | some j => rfl
  rw [this]
  exact aux r
/-- the rows behind a store -/
def putX (xs : List Trio) (k : NestedKey) (y v : V) : List Trio :=
  if (xs.any fun x => decide (x.1 = k)) = true then xs.map (fun x => if x.1 = k then (x.1, x.2.1, v) else x) else xs ++ [(k, y, v)]
theorem putX_kv (xs : List Trio) (k : NestedKey) (y v : V) : kvOf (putX xs k y v) = putK (kvOf xs) k v := by
  unfold putX putK
  rw [List.any_map]
  by_cases e : (xs.any fun x => decide (x.1 = k)) = true
  · rw [if_pos e, if_pos (show (xs.any ((fun kv : NestedKey × V => decide (kv.1 = k)) ∘ fun x : Trio => (x.1, x.2.2))) = true from e)]
    unfold kvOf
    rw [List.map_map, List.map_map]
    refine List.map_congr_left fun x _ => ?_
    show (((if x.1 = k then (x.1, x.2.1, v) else x) : Trio).1, ((if x.1 = k then (x.1, x.2.1, v) else x) : Trio).2.2) = if x.1 = k then (x.1, v) else (x.1, x.2.2)
    split <;> rfl
  · rw [if_neg e, if_neg (show ¬ (xs.any ((fun kv : NestedKey × V => decide (kv.1 = k)) ∘ fun x : Trio => (x.1, x.2.2))) = true from e)]
    unfold kvOf
    rw [List.map_append]
    rfl
theorem RR.put {xs : List Trio} {rs : List Row3} (r : RR xs rs) (nd : (rs.map (·.1)).Nodup) (k : NestedKey) {y v : V} {u z : Value} (ry : RelV y u) (rv : RelV v z) : RR (putX xs k y v) (setU rs k u z) := by
  unfold putX setU
  cases hp : pos rs k with
  | none =>
    have : ¬ (xs.any fun x => decide (x.1 = k)) = true := fun q => by
      obtain ⟨x, hx, e⟩ := List.any_eq_true.mp q
      have m : x.1 ∈ xs.map (·.1) := List.mem_map.mpr ⟨x, hx, rfl⟩
      rw [r.keys] at m
      obtain ⟨y', hy', e'⟩ := List.mem_map.mp m
      have := List.findIdx?_eq_none_iff.mp hp y' hy'
      exact absurd (e'.trans (of_decide_eq_true e)) (of_decide_eq_false this)
    rw [if_neg this]
    exact Paired.snoc r ⟨rfl, ry, rv⟩
  | some i =>
    obtain ⟨q, hq, ek⟩ := pos_is hp
    obtain ⟨x, hx, e1, _, _⟩ := r.at_ hq
    rw [if_pos (List.any_eq_true.mpr ⟨x, List.mem_of_getElem? hx, decide_eq_true (e1.trans ek)⟩)]
    dsimp only
    have e : (rs.modify i fun x => (x.1, x.2.1, z)) = rs.map fun x => if x.1 = k then (x.1, x.2.1, z) else x := by
      refine List.ext_getElem? fun j => ?_
      rw [List.getElem?_modify, List.getElem?_map]
      cases hj : rs[j]? with
      | none => rfl
      | some t =>
        by_cases c : i = j
        · subst c
          rw [hq] at hj
          cases hj
          simp [ek]
        · have : ¬ t.1 = k := fun w' => c (by
            have a1 := pos_some nd hj
            rw [w', hp] at a1
            exact Option.some.inj a1)
          simp [c, this]
    rw [e]
    clear e hp hq hx
    induction r with
    | nil => exact .nil
    | @cons p q ps qs h t ih =>
      obtain ⟨h1, h2, h3⟩ := h
      rw [List.map_cons, List.map_cons]
      refine .cons ?_ (ih (List.nodup_cons.mp nd).2)
      by_cases c : p.1 = k
      · rw [if_pos c, if_pos (h1.symm.trans c)]
        exact ⟨h1, h2, rv⟩
      · rw [if_neg c, if_neg fun w' => c (h1.trans w')]
        exact ⟨h1, h2, h3⟩
end
end LU
namespace LU
open PySem PySem.Spec PyProof.Rows L2
section
variable {X : Cx} {pins : List (Addr × Obj)} {σ : L2.St} {H : Hp} {s : Shared} {a : Addr} {kvs : List (NestedKey × V)} {k : NestedKey} {y v : V} {u z : Value} {E : Value → Shared → Prop}
theorem uo_ok {P : Program} {w : World} {H : Hp} {h : Heap} {d : Addr} {xs : List Trio} {rs : List Row3} {o : Obj} {es : Array DictEntry} {ep : Nat} (hl : xs.length ≤ sizeLine) (hd : (d == sysModules) = false) (r : RR xs rs) (q : UD w h d rs o es ep) : ObjOk P w H h d (UO w d xs) := by
  refine ⟨⟨hl, hd, rs, r, o, es, ep, q.get, q.exact_, q.data, q.ents, q.nd⟩, ⟨o, q.get⟩, fun h1 h2 p e => ?_⟩
  obtain ⟨a, b, rs', r', o', es', ep', c, t⟩ := p
  exact ⟨a, b, rs', r', o', es', ep', e _ c, t⟩
theorem u_in {Q : Value → Shared → Prop} (hu : X.A.units + 64 < cLine) (I : Inv X pins σ H s) (g : UAt X.w H a kvs) (n : NV H k y) (hd : k.depth ≤ 8) (ry : RelV y u) (h : ∀ s', Inv X pins σ H s' → Q (.bool (valV kvs k).isSome) s') :
    wpAny (model X.prog X.w) X.A (compareOp .In u (.ref a)) Q E s := by
  obtain ⟨xs, rs, o, es, ep, _, _, c, _, hs, rr, ud⟩ := g.ud I.hok
  refine in_u (by rw [Around.in1_units]; omega) hs ud (n.is I.hok ry) hd ?_
  have e := (rr.val k).isSome_eq
  rw [c] at e
  rw [← e]
  exact h _ (I.tok _)
theorem u_notIn {Q : Value → Shared → Prop} (hu : X.A.units + 64 < cLine) (I : Inv X pins σ H s) (g : UAt X.w H a kvs) (n : NV H k y) (hd : k.depth ≤ 8) (ry : RelV y u) (h : ∀ s', Inv X pins σ H s' → Q (.bool (!(valV kvs k).isSome)) s') :
    wpAny (model X.prog X.w) X.A (compareOp .NotIn u (.ref a)) Q E s := by
  obtain ⟨xs, rs, o, es, ep, _, _, c, _, hs, rr, ud⟩ := g.ud I.hok
  refine notIn_u (by rw [Around.in1_units]; omega) hs ud (n.is I.hok ry) hd ?_
  have e := (rr.val k).isSome_eq
  rw [c] at e
  rw [← e]
  exact h _ (I.tok _)
theorem u_getItem {Q : Value → Shared → Prop} (hu : X.A.units + 64 < cLine) (I : Inv X pins σ H s) (g : UAt X.w H a kvs) (n : NV H k y) (hd : k.depth ≤ 8) (hv : valV kvs k = some v) (ry : RelV y u) (h : ∀ w' s', Inv X pins σ H s' → RelV v w' → Q w' s') :
    wpAny (model X.prog X.w) X.A (getItem (.ref a) u) Q E s := by
  obtain ⟨xs, rs, o, es, ep, _, _, c, _, hs, rr, ud⟩ := g.ud I.hok
  have e := rr.val k
  rw [c] at e
  obtain ⟨w', hw, rw'⟩ := RelO.some_of (v := v) (o := valU rs k) (by rw [← hv]; exact e)
  exact item_u (by rw [Around.in1_units]; omega) ud (n.is I.hok ry) hd hw (h w' _ (I.tok _) rw')
theorem putX_len (xs : List Trio) (k : NestedKey) (y v : V) : (putX xs k y v).length ≤ xs.length + 1 := by
  unfold putX
  split
  · rw [List.length_map]
    omega
  · rw [List.length_append]
    exact Nat.le_refl _
/-- the heap behind a store into such a dict -/
def UPut (w : World) (H : Hp) (a : Addr) (kvs : List (NestedKey × V)) (H' : Hp) : Prop := UAt w H' a kvs ∧ (∀ b, b ≠ a → H' b = H b)
theorem UPut.tups {w : World} {H H' : Hp} {a : Addr} {kvs kvs' : List (NestedKey × V)} (g : UAt w H a kvs') (p : UPut w H a kvs H') : ∀ b xs, H b = some (.tup xs) → H' b = some (.tup xs) := fun b xs e => by
  rw [p.2 b (g.ne e (fun φ z => by cases z)).symm]
  exact e
theorem u_setItem {Q : Unit → Shared → Prop} (hu : X.A.units + 64 < cLine) (I : Inv X pins σ H s) (g : UAt X.w H a kvs) (n : NV H k y) (hd : k.depth ≤ 8) (hl : kvs.length < sizeLine) (ry : RelV y u) (rv : RelV v z)
    (h : ∀ H' s', UPut X.w H a (putK kvs k v) H' → Inv X pins σ H' s' → Q () s') :
    wpAny (model X.prog X.w) X.A (setItem (.ref a) u z) Q E s := by
  obtain ⟨xs, rs, o, es, ep, ea, ks, c, hz, hs, rr, ud⟩ := g.ud I.hok
  have lx : xs.length = kvs.length := by rw [← c, List.length_map]
  refine setItem_u (by rw [Around.in1_units]; omega) ud (n.is I.hok ry) hd (by rw [← rr.len]; exact hz) fun h' o' es' ep' ud' sb => ?_
  have nt : ∀ b ys, H b = some (.tup ys) → (upd H a (UO X.w a (putX xs k y v))) b = some (.tup ys) := fun b ys e => by
    rw [upd_ne (ne_of e ea (by intro z; cases z))]
    exact e
  refine h (upd H a (UO X.w a (putX xs k y v))) _ ⟨⟨_, upd_same, fun x hx => ?_, ?_⟩, fun b hb => upd_ne hb⟩ (d_write I (by rw [ea]; exact True.intro) sb ⟨_, ud'.get⟩ (uo_ok ?_ hs (rr.put ud.nd k ry rv) ud'))
  · unfold putX at hx
    split at hx
    · obtain ⟨x', hx', rfl⟩ := List.mem_map.mp hx
      have := ks x' hx'
      split
      · exact ⟨this.1.mono nt, this.2⟩
      · exact ⟨this.1.mono nt, this.2⟩
    · rcases List.mem_append.mp hx with q | q
      · exact ⟨(ks x q).1.mono nt, (ks x q).2⟩
      · rw [List.mem_singleton.mp q]
        exact ⟨n.mono nt, hd⟩
  · rw [putX_kv, c]
  · have := putX_len xs k y v
    omega
theorem u_empty {P : Program} {w : World} {H : Hp} (h : Heap) (hb : sysModules < h.objs.size) : ObjOk P w H (h.push { cls := .type "dict", data := .dict #[] }) h.objs.size (UO w h.objs.size []) :=
  uo_ok (rs := []) (Nat.zero_le _) (beq_eq_false_iff_ne.mpr (Ne.symm (Nat.ne_of_lt hb))) .nil ⟨Heap.get?_push_size _ rfl, ⟨rfl, rfl, rfl⟩, rfl, rfl, (fun _ q => nomatch q), List.nodup_nil⟩
theorem u_new {w : World} {H : Hp} {p : Addr} : UAt w (upd H p (UO w p [])) p [] := ⟨[], upd_same, (fun _ q => nomatch q), rfl⟩
end
/-! ### readings and rules -/
def tUNew (w : World) : TE := fun _ H Q => ∀ p, H p = none → ∀ H', UAt w H' p [] → (∀ b, b ≠ p → H' b = H b) → Q (.ref p) H'
def tUGet (w : World) (td ty : TE) : TE := fun σ H Q => td σ H fun x H1 => ty σ H1 fun y H2 => ∃ a kvs k v, x = .ref a ∧ UAt w H2 a kvs ∧ NV H2 k y ∧ k.depth ≤ 8 ∧ valV kvs k = some v ∧ Q v H2
def tUIn (w : World) (ty td : TE) : TE := fun σ H Q => ty σ H fun y H1 => td σ H1 fun x H2 => ∃ a kvs k, x = .ref a ∧ UAt w H2 a kvs ∧ NV H2 k y ∧ k.depth ≤ 8 ∧ Q (.bl (valV kvs k).isSome) H2
def tUNotIn (w : World) (ty td : TE) : TE := fun σ H Q => ty σ H fun y H1 => td σ H1 fun x H2 => ∃ a kvs k, x = .ref a ∧ UAt w H2 a kvs ∧ NV H2 k y ∧ k.depth ≤ 8 ∧ Q (.bl (!(valV kvs k).isSome)) H2
def sUPut (w : World) (td ty tv : TE) : TS := fun D σ H => tv σ H fun v H1 => td σ H1 fun x H2 => ty σ H2 fun y H3 => ∃ a kvs k, x = .ref a ∧ UAt w H3 a kvs ∧ NV H3 k y ∧ k.depth ≤ 8 ∧ kvs.length < sizeLine ∧ ∀ H4, UPut w H3 a (putK kvs k v) H4 → D.nx σ H4
/-- {k: v} -/
def tUDisp (w : World) (tk tv : TE) : TE := fun σ H Q => ∀ p, H p = none → ∀ H0, UAt w H0 p [] → (∀ b, b ≠ p → H0 b = H b) → tk σ H0 fun x H1 => tv σ H1 fun y H2 => UAt w H2 p [] ∧ ∃ k, NV H2 k x ∧ k.depth ≤ 8 ∧ ∀ H3, UPut w H2 p [(k, y)] H3 → Q (.ref p) H3
section
variable {X : Cx} {o i e value : Expr} {pos pos' tpos : Pos} {td ty tv tk : TE} {w : World}
theorem pe_unew (hw : X.w = w) : PE X (.Dict [] [] pos) (tUNew w) := by
  subst hw
  exact ⟨fun pins s σ H Q I h => wpAny_Dict_empty ⟨.ref s.heap.objs.size, _, I.laid (a := s.heap.objs.size) (o := UO X.w s.heap.objs.size []) (t' := s.toks) (fun _ _ q => Heap.get?_push_of_some _ q) (Nat.le_refl _) (u_empty s.heap I.big), rfl, h _ (I.hok.fresh (Nat.le_refl _)) _ u_new fun b hb => upd_ne hb⟩⟩
theorem pe_uget (hw : X.w = w) (hu : X.A.units + 64 < cLine) (ho : PE X o td) (hi : PE X i ty) (hs : NoSl i) : PE X (.Subscript o i pos) (tUGet w td ty) := by
  subst hw
  refine ⟨fun pins s σ H Q I h => ?_⟩
  refine subD_of PySem.F.slot_dict_getitem.lookup hs (thn (ho.run pins s σ H _ I h) fun u s1 ⟨x, H1, I1, rx, q1⟩ => thn (hi.run pins s1 σ H1 _ I1 q1) fun iv s2 ⟨y, H2, I2, ry, a, kvs, k, v, ex, g, n, hd, hv, q2⟩ => ?_)
  subst ex
  obtain rfl : u = Value.ref a := rx
  obtain ⟨_, _, _, _, _, _, _, _, _, _, _, ud⟩ := g.ud I2.hok
  exact ⟨ud.type, u_getItem hu I2 g n hd hv ry fun w' s3 I3 rw' => ⟨v, H2, I3, rw', q2⟩⟩
theorem pc_uin (hw : X.w = w) (hu : X.A.units + 64 < cLine) (hi : PE X i ty) (ho : PE X o td) : PC X .In i o (tUIn w ty td) := by
  subst hw
  refine ⟨fun pins s σ H Q I h => ?_⟩
  refine thn (hi.run pins s σ H _ I h) fun iv s1 ⟨y, H1, I1, ry, q1⟩ => thn (ho.run pins s1 σ H1 _ I1 q1) fun u s2 ⟨x, H2, I2, rx, a, kvs, k, ex, g, n, hd, q2⟩ => ?_
  subst ex
  obtain rfl : u = Value.ref a := rx
  exact u_in hu I2 g n hd ry fun s3 I3 => ⟨.bl (valV kvs k).isSome, H2, I3, rfl, q2⟩
theorem pc_unotin (hw : X.w = w) (hu : X.A.units + 64 < cLine) (hi : PE X i ty) (ho : PE X o td) : PC X .NotIn i o (tUNotIn w ty td) := by
  subst hw
  refine ⟨fun pins s σ H Q I h => ?_⟩
  refine thn (hi.run pins s σ H _ I h) fun iv s1 ⟨y, H1, I1, ry, q1⟩ => thn (ho.run pins s1 σ H1 _ I1 q1) fun u s2 ⟨x, H2, I2, rx, a, kvs, k, ex, g, n, hd, q2⟩ => ?_
  subst ex
  obtain rfl : u = Value.ref a := rx
  exact u_notIn hu I2 g n hd ry fun s3 I3 => ⟨.bl (!(valV kvs k).isSome), H2, I3, rfl, q2⟩
theorem ps_uput (hw : X.w = w) (hu : X.A.units + 64 < cLine) (ho : PE X o td) (hi : PE X i ty) (hv : PE X value tv) (hs : swapsWith value (some (.Subscript o i pos')) pos.line X.env = pure false) :
    PS X (.Assign [.Subscript o i pos'] value pos) (sUPut w td ty tv) := by
  subst hw
  refine ⟨fun pins s σ H D I h => ?_⟩
  refine wpAny_Assign_Subscript (thn (hv.run pins s σ H _ I h) fun r s1 ⟨v, H1, I1, rv, q1⟩ => thn (ho.run pins s1 σ H1 _ I1 q1) fun u s2 ⟨x, H2, I2, rx, q2⟩ => thn (hi.run pins s2 σ H2 _ I2 q2) fun iv s3 ⟨y, H3, I3, ry, a, kvs, k, ex, g, n, hd, hl, q3⟩ => ?_) hs
  subst ex
  obtain rfl : u = Value.ref a := rx
  exact u_setItem hu I3 g n hd hl ry rv fun H4 s4 p I4 => ⟨σ, H4, I4, q3 H4 p⟩
theorem pe_udisp (hw : X.w = w) (hu : X.A.units + 64 < cLine) (hk : PE X o tk) (hv : PE X value tv) : PE X (.Dict [some o] [value] pos) (tUDisp w tk tv) := by
  subst hw
  refine ⟨fun pins s σ H Q I q => ?_⟩
  have hn := I.hok.fresh (Nat.le_refl s.heap.objs.size)
  have I1 := I.laid (a := s.heap.objs.size) (o := UO X.w s.heap.objs.size []) (h' := s.heap.push { cls := .type "dict", data := .dict #[] }) (t' := s.toks) (fun _ _ q => Heap.get?_push_of_some _ q) (Nat.le_refl _) (u_empty s.heap I.big)
  rw [arm_eval_Dict, zip_pairTrees [some o] [value] X.env pos rfl rfl, dictDisplay_pairs _ (by intro z; cases z) (by show 1 < 17; decide)]
  refine wpAny_bind (wpAny_standAt (wpAny_bind ?_))
  unfold subDict
  refine wpAny_bind (wpAny_alloc ?_)
  refine wpAny_bind (wpAny_holding ?_)
  rw [if_pos (show (pairTrees [some o] [value] X.env pos).length ≤ 15 from (by decide : 1 ≤ 15))]
  refine wpAny_bind (pairTrees_cons_walk (thn (hk.run pins _ σ _ _ I1 (q _ hn _ u_new fun b hb => upd_ne hb)) fun u s1 ⟨x, H1, I2, rx, q1⟩ => thn (hv.run pins s1 σ H1 _ I2 q1) fun r s2 ⟨y, H2, I3, ry, g, k, n, hd, q2⟩ => pairTrees_nil_walk ?_))
  obtain ⟨xs, rs, ob, es, ep, ea, ks, c, hz, hs, rr, ud⟩ := g.ud I3.hok
  have ex : xs = [] := List.map_eq_nil_iff.mp c
  subst ex
  cases rr
  refine wpAny_holding ?_
  rw [List.forIn_cons]
  refine wpAny_bind (wpAny_bind (wpAny_bind (set_u (by omega) ud (n.is I3.hok rx) hd (Nat.zero_le _) fun h' o' es' ep' ud' sb => wpAny_pure ?_)))
  dsimp only
  rw [List.forIn_nil]
  have nt : ∀ b ys, H2 b = some (.tup ys) → (upd H2 s.heap.objs.size (UO X.w s.heap.objs.size (putX [] k x y))) b = some (.tup ys) := fun b ys e => by
    rw [upd_ne (ne_of e ea (by intro z; cases z))]
    exact e
  refine wpAny_pure (wpAny_pure (wpAny_pure (wpAny_pure ⟨.ref s.heap.objs.size, upd H2 s.heap.objs.size (UO X.w s.heap.objs.size (putX [] k x y)), ?_, rfl, q2 _ ⟨⟨_, upd_same, fun t ht => ?_, rfl⟩, fun b hb => upd_ne hb⟩⟩)))
  · exact d_write I3 (by rw [ea]; exact True.intro) sb ⟨_, ud'.get⟩ (uo_ok (by show 1 ≤ sizeLine; decide) hs (RR.put (xs := []) (rs := []) .nil List.nodup_nil k rx ry) ud')
  · rw [List.mem_singleton.mp ht]
    exact ⟨n.mono nt, hd⟩
end
/-- len(d) -/
theorem call_lenU {X : Cx} (w : World) (hw : X.w = w) : CallR X (.builtin "len") (fun xs H Q => ∃ a kvs, xs = [V.ref a] ∧ UAt w H a kvs ∧ Q (.int kvs.length) H) := by
  subst hw
  intro pins s σ H xs us Q I r h
  obtain ⟨a, kvs, rfl, g, q⟩ := h
  obtain ⟨u, rfl, ru⟩ := vals1 r
  cases ru
  obtain ⟨ys, rs, ob, es, ep, ea, ks, c, hz, hs, rr, ud⟩ := g.ud I.hok
  have sz : (es.size : Int) = (kvs.length : Int) := by
    rw [ud.size, ← rr.len, ← c, List.length_map]
  have fit : (kvs.length : Int) < 2 ^ 63 := by
    rw [← sz, ud.size, ← rr.len]
    rw [sizeLine_eq] at hz
    omega
  refine Calls.call_function_entry kind_len plain_len entry_len (args_len1 _) ?_
  unfold Builtin.«len»
  refine wpAny_bind (m := oneArg "len" _) (wpAny_pure ?_)
  refine wpAny_bind (m := callSpecial? (.ref a) (Str.ofString "__len__")) (wpAny_callSpecial?_slot (name := Str.ofString "__len__") ud.type PySem.F.slot_dict_len (wpAny_call_entry PySem.F.slot_dict_len ud.type PySem.F.entry_dict_len ?_ (PySem.F.args_dict_len_1 _)))
  show wpAny _ _ (dictSize a >>= _) _ _ s
  unfold dictSize
  refine wpAny_bind (wpAny_bind (wpAny_dictEntries ud.get ud.data (wpAny_pure ?_)))
  show wpAny _ _ (Builtin.Dict.pendingCount a >>= _) _ _ s
  refine wpAny_bind (wpAny_pendingCount_other hs ?_)
  refine wpAny_ret_mkInt ?_
  have e0 : (es.size : Int) + ((0 : Nat) : Int) = (kvs.length : Int) := (Int.add_zero _).trans sz
  rw [e0]
  show wpAny _ _ _ _ _ { s with toks := s.toks + 1 }
  refine wpAny_bind (wpAny_holding (wpAny_pure ?_))
  refine wpAny_bind (wpAny_letGo ?_)
  show wpAny _ _ (if ((kvs.length : Nat) : Int) < 0 then _ else _) _ _ _
  rw [if_neg (by omega)]
  show wpAny _ _ (if ((kvs.length : Nat) : Int) ≥ 2 ^ 63 then _ else _) _ _ _
  rw [if_neg (by omega)]
  exact wpAny_bind (wpAny_mkInt (wpAny_pure ⟨_, rfl, .int kvs.length, H, I.tok _, ⟨_, rfl⟩, q⟩))
end LU

namespace LH
open PySem PySem.Spec PyProof.Rows L2 NdefX
/-! ### the entry of a nested def that has cells of its own beside the captured ones -/
theorem cellsFrom_app : ∀ (names : List (Str × NameKind)) (n : Nat) (acc : List (Str × Addr)), cellsFrom n names acc = cellsFrom n names [] ++ acc
  | [], _, _ => rfl
  | (name, kind) :: r, n, acc => by
    unfold cellsFrom
    split
    · rw [cellsFrom_app r (n + 1) ((name, n) :: acc), cellsFrom_app r (n + 1) [(name, n)], List.append_assoc]
      rfl
    · exact cellsFrom_app r n acc
theorem mem_cellsFrom : ∀ {names : List (Str × NameKind)} {n : Nat} {acc : List (Str × Addr)} {x : Str} {c : Addr}, (x, c) ∈ cellsFrom n names acc → (x, c) ∈ acc ∨ (x, NameKind.cell) ∈ names
  | [], _, _, _, _, h => .inl h
  | (name, kind) :: r, n, acc, x, c, h => by
    unfold cellsFrom at h
    split at h
    · rename_i hk
      rcases mem_cellsFrom h with q | q
      · rcases List.mem_cons.mp q with e | q
        · cases e
          have : kind = .cell := beq_iff_eq.mp hk
          subst this
          exact .inr List.mem_cons_self
        · exact .inl q
      · exact .inr (List.mem_cons_of_mem _ q)
    · rcases mem_cellsFrom h with q | q
      · exact .inl q
      · exact .inr (List.mem_cons_of_mem _ q)
section
variable {M : Model} {A : Around} {E : Value → Shared → Prop} {s₀ s : Shared} {m cm : Str → Option Value} {env : Env} {own : List (Str × Addr)}
theorem stL_own {n : Str} {v : Value} {Q : Unit → Shared → Prop} (x : InCallC s₀ env.locals m own cm s) (hk : env.scope.kind = .function) (hl : env.kindOf n = some .local)
    (h : ∀ s', InCallC s₀ env.locals (fun y => if y = n then some v else m y) own cm s' → Q () s') : wpAny M A (storeName env n v) Q E s := by
  refine wpAny_storeName_local hl x.toInCall.ns (fun h' hn' hs' => h _ ⟨⟨?_, hn', fun b o e => ?_, x.toInCall.fresh⟩, fun k c hc => ?_, x.apart, x.above⟩) (by rw [hk]; rfl)
  · obtain ⟨h₁, tk, rfl⟩ := x.toInCall.same
    exact ⟨h', _, rfl⟩
  · exact hs'.extBut b o (Nat.ne_of_lt (Nat.lt_of_lt_of_le (Heap.lt_size e) x.toInCall.fresh)) (x.toInCall.keep b o e)
  · exact (x.cell k c hc).sameBut hs' (Nat.ne_of_gt (x.above k c (PySem.mem_of_lookup hc)))
theorem stC_own {n : Str} {c : Addr} {v : Value} {Q : Unit → Shared → Prop} (x : InCallC s₀ env.locals m own cm s) (hk : env.scope.kind = .function) (hl : env.kindOf n = some .cell)
    (ho : own.lookup n = some c) (hc : env.cells.lookup n = some c)
    (h : ∀ s', InCallC s₀ env.locals m own (fun y => if y = n then some v else cm y) s' → Q () s') : wpAny M A (storeName env n v) Q E s := by
  have hLc := x.above n c (PySem.mem_of_lookup ho)
  refine wpAny_storeName_cell hk hl hc (x.cell n c ho) fun h' hc' hs' => h _ ⟨⟨?_, x.toInCall.ns.sameBut hs' (Nat.ne_of_lt hLc), fun b o e => ?_, x.toInCall.fresh⟩, fun k c' hk' => ?_, x.apart, x.above⟩
  · obtain ⟨h₁, tk, rfl⟩ := x.toInCall.same
    exact ⟨h', _, rfl⟩
  · exact hs'.extBut b o (Nat.ne_of_lt (Nat.lt_trans (Nat.lt_of_lt_of_le (Heap.lt_size e) x.toInCall.fresh) hLc)) (x.toInCall.keep b o e)
  · by_cases hkn : k = n
    · subst hkn
      rw [ho] at hk'; cases hk'
      simpa using hc'
    · rw [if_neg hkn]
      exact (x.cell k c' hk').sameBut hs' fun e => hkn (name_of_addr x.apart (PySem.mem_of_lookup hk') (e ▸ PySem.mem_of_lookup ho))
theorem wpAny_bind_own (f : Str × Value → PUnit → Sem (ForInStep PUnit)) (hf : ∀ n v u, f (n, v) u = (do storeName env n v; pure (.yield ⟨⟩))) (hk : env.scope.kind = .function) (hsub : ∀ n c, own.lookup n = some c → env.cells.lookup n = some c) :
    ∀ (binds : List (Str × Value)) (m cm : Str → Option Value) (s : Shared) (Q : PUnit → Shared → Prop), InCallC s₀ env.locals m own cm s →
      (∀ x ∈ binds, env.kindOf x.1 = some .local ∨ (env.kindOf x.1 = some .cell ∧ (own.lookup x.1).isSome = true)) →
      (∀ s', InCallC s₀ env.locals (bindL env.kindOf binds m) own (bindC env.kindOf binds cm) s' → Q ⟨⟩ s') → wpAny M A (forIn binds ⟨⟩ f) Q E s
  | [], m, cm, s, Q, x, _, h => by rw [List.forIn_nil]; exact wpAny_pure (h s x)
  | (n, v) :: r, m, cm, s, Q, x, hkind, h => by
    rw [List.forIn_cons, hf]
    have hr : ∀ y ∈ r, env.kindOf y.1 = some .local ∨ (env.kindOf y.1 = some .cell ∧ (own.lookup y.1).isSome = true) := fun y hy => hkind y (List.mem_cons_of_mem _ hy)
    rcases hkind (n, v) List.mem_cons_self with hl | ⟨hl, hc⟩
    · refine wpAny_bind (wpAny_bind (stL_own x hk hl fun s' x' => wpAny_pure (wpAny_bind_own f hf hk hsub r _ _ s' Q x' hr fun s'' x'' => h s'' ?_)))
      unfold bindL bindC; rw [if_pos hl, if_pos hl]; exact x''
    · obtain ⟨c, hc⟩ := Option.isSome_iff_exists.mp hc
      have hnl : ¬ env.kindOf n = some .local := by rw [hl]; decide
      refine wpAny_bind (wpAny_bind (stC_own x hk hl hc (hsub n c hc) fun s' x' => wpAny_pure (wpAny_bind_own f hf hk hsub r _ _ s' Q x' hr fun s'' x'' => h s'' ?_)))
      unfold bindL bindC; rw [if_neg hnl, if_neg hnl]; exact x''
end
section
variable {M : Model} {A : Around} {E : Value → Shared → Prop} {s : Shared}
theorem wpAny_newFunctionEnv_own {scope : Scope} {globals : Addr} {cl : List (Str × Addr)} {binds : List (Str × Value)} {qual : Str} {func : Option Addr} {code : Value} {builtins : Addr} {Q : Env → Shared → Prop}
    (hk : scope.kind = .function)
    (hkind : ∀ x ∈ binds, scope.names.lookup x.1 = some .local ∨ (scope.names.lookup x.1 = some .cell ∧ ((cellsFrom (s.heap.objs.size + 1) scope.names []).lookup x.1).isSome = true))
    (hQ : ∀ env, env = newEnv scope s.heap.objs.size globals (cellsFrom (s.heap.objs.size + 1) scope.names [] ++ cl) qual func code none builtins →
      ∀ s', InCallC s env.locals (bindL env.kindOf binds fun _ => none) (cellsFrom (s.heap.objs.size + 1) scope.names []) (bindC env.kindOf binds fun _ => none) s' → Q env s') :
    wpAny M A (newFunctionEnv scope globals cl binds qual func code none builtins) Q E s := by
  simp only [newFunctionEnv, Option.isSome_none, Bool.false_eq_true, if_false]
  refine wpAny_bind (wpAny_alloc ?_)
  refine wpAny_bind (wpAny_layCells _ (fun name kind cells => by cases hkc : kind == NameKind.cell <;> simp [hkc]) _ _ _ _ ?_)
  have ok := cellsFrom_ok scope.names (s.heap.push { cls := .type "frame", data := .dict #[] }) (s.heap.objs.size + 1) [] ⟨fun _ _ hm => (nomatch hm), List.Pairwise.nil⟩ (by rw [Heap.size_push]; exact Nat.le_refl _)
  rw [Heap.size_push] at ok
  rw [show ({ s with heap := s.heap.push { cls := .type "frame", data := .dict #[] } } : Shared).heap.objs.size = s.heap.objs.size + 1 from Heap.size_push .., cellsFrom_app scope.names _ cl]
  refine wpAny_bind (wpAny_bind_own (s₀ := s) (own := cellsFrom (s.heap.objs.size + 1) scope.names []) (env := newEnv scope s.heap.objs.size globals (cellsFrom (s.heap.objs.size + 1) scope.names [] ++ cl) qual func code none builtins)
    _ (fun _ _ _ => rfl) hk (fun n c h => by show (cellsFrom (s.heap.objs.size + 1) scope.names [] ++ cl).lookup n = some c; rw [List.lookup_append, h]; rfl) binds (fun _ => none) (fun _ => none) _ _
    ⟨⟨⟨_, _, rfl⟩, (Heap.Ns.new s.heap (.type "frame")).keeps (pushCells_keeps _ _), fun b o e => pushCells_keeps _ _ b o (Heap.get?_push_of_some _ e), Nat.le_refl _⟩,
      fun n c hc => (ok.empty n c (PySem.mem_of_lookup hc)).1, ok.apart, fun n c hm => (ok.empty n c hm).2⟩
    hkind fun s' x => wpAny_pure (hQ _ rfl s' x))
end
end LH

namespace LH
open PySem PySem.Spec PyProof.Rows L2 NdefX LamX
/-- a nested def's names: parameters (local or a cell of its own), captured ones, locals -/
structure NScC (N ps fr : List Str) (sc : Scope) : Prop where
  kind : sc.kind = .function
  co : sc.isCoroutine = false
  gen : sc.isGenerator = false
  nd : N.Nodup
  pre : N.take (ps.length + fr.length) = ps ++ fr
  par : ∀ x ∈ ps, sc.names.lookup x = some .local ∨ sc.names.lookup x = some .cell
  free : ∀ y ∈ sc.names, y.2 = .free → y.1 ∈ fr
  frk : ∀ x ∈ fr, sc.names.lookup x = some .free
  frn : ∀ x ∈ fr, (x, NameKind.cell) ∉ sc.names
def nscC (N ps fr : List Str) (sc : Scope) : Bool :=
  decide (sc.kind = .function) && !sc.isCoroutine && !sc.isGenerator && decide N.Nodup && decide (N.take (ps.length + fr.length) = ps ++ fr) && ps.all (fun x => decide (sc.names.lookup x = some .local) || decide (sc.names.lookup x = some .cell)) && sc.names.all (fun y => !decide (y.2 = .free) || decide (y.1 ∈ fr)) && fr.all (fun x => decide (sc.names.lookup x = some .free)) && fr.all (fun x => sc.names.all fun y => !(decide (y.1 = x) && decide (y.2 = .cell)))
theorem nscC_by {N ps fr : List Str} {sc : Scope} (h : nscC N ps fr sc = true) : NScC N ps fr sc := by
  unfold nscC at h
  simp only [Bool.and_eq_true, Bool.not_eq_true', decide_eq_true_eq, List.all_eq_true, Bool.or_eq_true, decide_eq_false_iff_not, Bool.and_eq_false_iff] at h
  obtain ⟨⟨⟨⟨⟨⟨⟨⟨h1, h2⟩, h3⟩, h4⟩, h5⟩, h6⟩, h7⟩, h8⟩, h9⟩ := h
  exact ⟨h1, h2, h3, h4, h5, h6, fun y hy e => (h7 y hy).elim (fun z => absurd e z) id, h8, fun x hx hm => (h9 x hx _ hm).elim (fun z => z rfl) fun z => z rfl⟩
abbrev ownC (F : NF) (L : Addr) : List (Str × Addr) := cellsFrom (L + 1) F.scope.names []
abbrev envFC (F : NF) (f L : Addr) : Env := PySem.W.envX F.qual F.scope L f (.ref F.c) (ownC F L ++ F.cl)
/-- the context of its body, at its entry -/
def ncxC (CX : CXT) (P : Program) (w : World) (K : PySem.W.Frag) (mg : Str → Option Value) (base : Heap) (N : List Str) (F : NF) (f : Addr) (A : Around) (outer : List Env) (s : Shared) (H : Hp) (E : XK) : Cx where
  prog := P
  w := w
  K := K
  mg := mg
  base := base
  A := A.deeper (envFC F f s.heap.objs.size)
  N := N
  s_0 := s
  H_0 := H
  env := envFC F f s.heap.objs.size
  outer := outer
  stack := envFC F f s.heap.objs.size :: outer
  ex := []
  calm := true
  fn := fun _ => false
  pn := []
  xe := fun e s' => wpAny (model P w) (A.deeper (envFC F f s.heap.objs.size)) (leaving (envFC F f s.heap.objs.size) e) (fun _ s'' => CX outer H s E e s'') (fun e' s'' => CX outer H s E e' s'') s'
section
variable {CX : CXT} {P : Program} {w : World} {K : PySem.W.Frag} {mg : Str → Option Value} {base : Heap} {N ps fr : List Str} {F : NF} {f : Addr} {A : Around} {outer : List Env} {s s1 : Shared} {H : Hp} {E : XK} {us : List Value} {vs : List V} {ws : List (Option V)}
theorem inv_startC (S : NScC N ps fr F.scope) (hd : A.handled = none) (e0 : Env0 P w K mg base A outer s H) (hl : vs.length = ps.length) (r : Vals vs us) (C : CellsAt F.cl fr ws s.heap H)
    (x : InCallC s s.heap.objs.size (bindL (envFC F f s.heap.objs.size).kindOf (ps.zip us) fun _ => none) (ownC F s.heap.objs.size) (bindC (envFC F f s.heap.objs.size).kindOf (ps.zip us) fun _ => none) s1) :
    Inv (ncxC CX P w K mg base N F f A outer s H E) [] (startF N vs ws) H s1 := by
  have hpl : ps.length + fr.length ≤ N.length := by
    have q := congrArg List.length S.pre
    rw [List.length_take, List.length_append] at q
    omega
  obtain ⟨h1, tk, rfl, kp⟩ := x.done
  have noA : ∀ b : Addr, b ∉ (ncxC CX P w K mg base N F f A outer s H E).ex := fun b z => absurd (show b ∈ ([] : List Addr) from z) (by simp)
  have cellK : ∀ {c : Addr} {v : Option Value}, s.heap.IsCell c v → h1.IsCell c v := fun {c v} ⟨o, ho, hd⟩ => ⟨o, kp _ _ ho, hd⟩
  have lo : ∀ {y : Str} {c : Addr}, (ownC F s.heap.objs.size).lookup y = some c → (ownC F s.heap.objs.size ++ F.cl).lookup y = some c := fun {y c} e => by rw [List.lookup_append, e]; rfl
  have lc : ∀ {y : Str} {c : Addr}, (ownC F s.heap.objs.size ++ F.cl).lookup y = some c → (ownC F s.heap.objs.size).lookup y = some c ∨ ((ownC F s.heap.objs.size).lookup y = none ∧ F.cl.lookup y = some c) := fun {y c} e => by
    rw [List.lookup_append] at e
    cases q : (ownC F s.heap.objs.size).lookup y with
    | none =>
      rw [q] at e
      exact .inr ⟨rfl, e⟩
    | some d =>
      rw [q] at e
      exact .inl e
  have lf : ∀ {y : Str} {c : Addr}, y ∈ fr → F.cl.lookup y = some c → (ownC F s.heap.objs.size ++ F.cl).lookup y = some c := fun {y c} hy e => by
    rw [List.lookup_append]
    cases q : (ownC F s.heap.objs.size).lookup y with
    | none => exact e
    | some d =>
      rcases mem_cellsFrom (PySem.mem_of_lookup q) with z | z
      · cases z
      · exact absurd z (S.frn y hy)
  have up : ∀ {y : Str} {c : Addr}, (ownC F s.heap.objs.size).lookup y = some c → s.heap.objs.size ≤ c := fun {y c} e => Nat.le_of_lt (x.above y c (PySem.mem_of_lookup e))
  have dn : ∀ {y : Str} {c : Addr}, F.cl.lookup y = some c → c < s.heap.objs.size := fun {y c} e => by
    obtain ⟨v, z⟩ := (C.all y c e).2
    exact z.lt
  refine ⟨⟨e0.mod, S.kind, rfl, rfl, Nat.le_refl _, fun y z c e1 e2 => ?_, fun y hy => ?_, fun y c z _ => ?_, fun _ => hd, Around.frames_deeper e0.frames, .inr ⟨rfl, rfl⟩, fun b z => absurd z (noA b), e0.bs, e0.bsz, fun b _ _ => noA b,
      fun b z => absurd z (noA b), e0.funs, e0.frf⟩,
    rfl, e0.bare, Un.kept kp, ⟨_, x.toInCall.ns, fun i y v e1 e2 e3 => ?_⟩, fun y c e => ?_, e0.hok.fresh (Nat.le_refl _), fun y c e => ?_, fun q hq => absurd (show q ∈ ([] : List (Addr × Obj)) ++ [] from hq) (by simp), e0.hok.kept kp, ?_⟩
  · rcases lc e1 with a | ⟨_, a⟩ <;> rcases lc e2 with b | ⟨_, b⟩
    · exact name_of_addr x.apart (PySem.mem_of_lookup a) (PySem.mem_of_lookup b)
    · exact absurd (up a) (Nat.not_le_of_lt (dn b))
    · exact absurd (up b) (Nat.not_le_of_lt (dn a))
    · exact C.inj y z c a b
  · have hy : F.scope.names.lookup y = some .cell ∨ F.scope.names.lookup y = some .free := hy
    rcases hy with hy | hy
    · obtain ⟨c, e⟩ := cell_has (n := s.heap.objs.size + 1) hy
      exact ⟨c, lo e⟩
    · have hf := S.free _ (PySem.mem_of_lookup hy) rfl
      obtain ⟨i, hi⟩ := List.mem_iff_getElem?.mp hf
      obtain ⟨c, hc, _⟩ := C.has i y hi
      exact ⟨c, lf hf hc⟩
  · have z : false = true := z
    cases z
  · have e1 : N[i]? = some y := e1
    have clen := C.len
    unfold startF at e2
    by_cases h1 : i < ps.length
    · have hq : (ps ++ fr)[i]? = some y := by
        rw [← S.pre, List.getElem?_take_of_lt (by omega)]
        exact e1
      rw [List.getElem?_append_left h1] at hq
      rw [List.getElem?_append_left (by rw [List.length_map]; omega), List.getElem?_map] at e2
      have ha : vs[i]? = some v := by
        cases e : vs[i]? with
        | none => rw [e] at e2; cases e2
        | some a => rw [e] at e2; cases e2; rfl
      obtain ⟨u, hu, rv⟩ := r.get ha
      have ndP : ps.Nodup := by
        have q := S.nd.sublist (List.take_sublist (ps.length + fr.length) N)
        rw [S.pre] at q
        exact (List.nodup_append.mp q).1
      refine ⟨u, rv, ?_⟩
      rcases S.par y (List.mem_of_getElem? hq) with k | k
      · exact .inl ⟨k, bindL_get ndP hq hu k⟩
      · obtain ⟨c, e⟩ := cell_has (n := s.heap.objs.size + 1) k
        refine .inr ⟨.inl k, c, lo e, ?_⟩
        have q := x.cell y c e
        rw [bindC_get ndP hq hu (by show F.scope.names.lookup y ≠ _; rw [k]; decide)] at q
        exact q
    · rw [List.getElem?_append_right (by rw [List.length_map]; omega), List.length_map] at e2
      by_cases h2 : i < ps.length + fr.length
      · have hq : (ps ++ fr)[i]? = some y := by
          rw [← S.pre, List.getElem?_take_of_lt (by omega)]
          exact e1
        rw [List.getElem?_append_right (by omega)] at hq
        rw [List.getElem?_append_left (by omega), hl] at e2
        obtain ⟨c, hc, hv⟩ := C.has (i - ps.length) y hq
        obtain ⟨u, ru, hu⟩ := hv v e2
        have hm := List.mem_of_getElem? hq
        exact ⟨u, ru, .inr ⟨.inr (S.frk y hm), c, lf hm hc, cellK hu⟩⟩
      · rw [List.getElem?_append_right (by omega), List.getElem?_replicate] at e2
        split at e2 <;> cases e2
  · rcases lc e with a | ⟨_, a⟩
    · exact ⟨_, x.cell y c a⟩
    · obtain ⟨v, z⟩ := (C.all y c a).2
      exact ⟨v, cellK z⟩
  · rcases lc e with a | ⟨_, a⟩
    · exact e0.hok.fresh (up a)
    · exact (C.all y c a).1
  · have clen := C.len
    unfold startF
    show _ = N.length
    rw [List.length_append, List.length_append, List.length_map, List.length_replicate]
    omega
end
section
variable {CX : CXT} {P : Program} {w : World} {K : PySem.W.Frag} {mg : Str → Option Value} {base : Heap} {N ps fr : List Str} {F : NF} {f : Addr} {k : Nat} {sp : List (Option V) → Sp}
/-- a nested def by its body, with cells of its own -/
theorem nok_ofC (S : NScC N ps fr F.scope) (hb : ∀ (doc pm ctv : Value) (us : List Value), us.length = ps.length → bindArgs (F.fd doc pm ctv) ⟨us, []⟩ = pure (ps.zip us)) (len : ∀ ws vs H Q E, sp ws vs H Q E → vs.length = ps.length)
    (hbody : ∀ (A : Around) (outer : List Env) (s : Shared) (H : Hp) (vs : List V) (ws : List (Option V)) (Q : VK) (E : XK), Room k (A.deeper (envFC F f s.heap.objs.size)) → H f = some (FnO f F) → H F.c = some (CodeO F.c F.qual) → ws.length = fr.length → sp ws vs H Q E →
      ∃ t, PSs (ncxC CX P w K mg base N F f A outer s H E) F.body t ∧ t { nx := fun _ H' => Q .non H', rt := Q } (startF N vs ws) H) :
    NOk P w K mg base CX (k + 1) f F ps fr sp := by
  refine ⟨len, fun A outer s H us vs ws Q E hr e0 hf hc C r hsp => ?_⟩
  have hl := len _ _ _ _ _ hsp
  have lim : s.heap.NoLimit := e0.mod.nolimit.keeps fun b o e => (e0.bs b o e).1
  obtain ⟨od, sl, doc, pm, ctv, ho⟩ := fnO_at e0.hok hf
  have hkind : ∀ y ∈ ps.zip us, F.scope.names.lookup y.1 = some .local ∨ (F.scope.names.lookup y.1 = some .cell ∧ ((cellsFrom (s.heap.objs.size + 1) F.scope.names []).lookup y.1).isSome = true) := fun ⟨n, v⟩ hy => by
    rcases S.par n (List.of_mem_zip hy).1 with q | q
    · exact .inl q
    · exact .inr ⟨q, PySem.W.cellsFrom_some _ _ _ (.inl q)⟩
  refine codeAny_call_function hr.depth ho rfl S.co S.gen rfl (codeO_at e0.hok hc) ?_
  rw [hb doc pm ctv us (by rw [← r.length]; exact hl)]
  refine wpAny_pure (wpAny_newFunctionEnv_own S.kind hkind fun env he s1 x => ?_)
  subst he
  refine ⟨lim.keeps x.toInCall.keep, codeAny_func ?_⟩
  obtain ⟨t, ht, hq⟩ := hbody A outer s H vs ws Q E (hr.deeper _) hf hc C.len hsp
  have I : Inv (ncxC CX P w K mg base N F f A outer s H E) [] (startF N vs ws) H s1 := inv_startC S hr.hd e0 hl r C x
  refine wpAny_mono (ht.run [] s1 (startF N vs ws) H _ I hq) (fun fl s' hs => ?_) fun e s' hs => hs
  have fin : ∀ {σ' : L2.St} {H' : Hp} {v : V} {u : Value}, Inv (ncxC CX P w K mg base N F f A outer s H E) [] σ' H' s' → L2.RelV v u → Q v H' → CE outer P w H s Q u s' :=
    fun {σ' H' v u} J rv q => ⟨v, H', J.os, J.bare, J.base, J.hok, rv, q⟩
  cases fl with
  | ret u =>
    obtain ⟨v, σ', H', J, rv, q⟩ := hs
    exact fin J rv q
  | next =>
    obtain ⟨σ', H', J, q⟩ := hs
    exact fin (v := V.non) (u := Value.none) J rfl q
  | brk =>
    obtain ⟨_, _, _, q⟩ := hs
    exact False.elim q
  | cont =>
    obtain ⟨_, _, _, q⟩ := hs
    exact False.elim q
end
end LH

namespace LU
open PySem PySem.Spec PyProof.Rows L2 LH
/-- a statement that is never come to -/
theorem ps_never {X : Cx} {st : Stmt} : PS X st (fun _ _ _ => False) := ⟨fun _ _ _ _ _ _ h => h.elim⟩
def tMidU (t : TE) : TE := fun σ H Q => ∃ M : V → Hp → Prop, t σ H M ∧ ∀ v H', M v H' → Q v H'
/-- an expression of which some ways end alike -/
theorem pe_midU {X : Cx} {e : Expr} {t : TE} (h : PE X e t) : PE X e (tMidU t) := by
  refine ⟨fun pins s σ H Q I q => ?_⟩
  obtain ⟨M, h1, h2⟩ := q
  refine thn (h.run pins s σ H _ I h1) fun u s1 ⟨x, H1, I1, r, m⟩ => ?_
  exact ⟨x, H1, I1, r, h2 x H1 m⟩
/-! ### sorted(dict), its keys pairs of numbers -/
def pk (q : Int × Int) : NestedKey := .tup [.num q.1, .num q.2]
def unpk : NestedKey → Int × Int
  | .tup [.num a, .num b] => (a, b)
  | _ => (0, 0)
def leP (a b : Int × Int) : Prop := a.1 < b.1 ∨ (a.1 = b.1 ∧ a.2 ≤ b.2)
instance (a b : Int × Int) : Decidable (leP a b) := inferInstanceAs (Decidable (_ ∨ _))
def dPk (q : Int × Int) : PyData := .tuple [.int q.1, .int q.2]
theorem le_dPk (a b : Int × Int) : PySem.W.dataLe false dPk a b = decide (leP a b) := by
  have e : decide (leP a b) = decide (a.1 < b.1 ∨ (a.1 = b.1 ∧ a.2 ≤ b.2)) := decide_eq_decide.mpr Iff.rfl
  rw [e]
  show (!PySem.W.dataLt (dPk b) (dPk a)) = _
  unfold dPk
  rw [PySem.W.dataLt_pair (by simp [PySem.W.alike]) (by simp [PySem.W.alike]), PySem.W.dataLt_int, PySem.W.dataLt_int]
  simp only [PyData.eqv, beq_iff_eq]
  by_cases h : b.1 = a.1
  · rw [if_pos h, h]
    by_cases e : b.2 = a.2
    · rw [if_pos e, e]
      simp
    · rw [if_neg e, PySem.W.not_lt_int]
      simp
  · rw [if_neg h, PySem.W.not_lt_int]
    have h' : ¬ a.1 = b.1 := fun z => h z.symm
    simp only [h', false_and, or_false]
    by_cases q : a.1 < b.1
    · rw [decide_eq_true q, decide_eq_true (by omega)]
    · rw [decide_eq_false q, decide_eq_false (by omega)]
theorem trio_pk {H : Hp} {q : Int × Int} {v : V} (h : NV H (pk q) v) : ∃ t, v = .ref t ∧ H t = some (.tup [.int q.1, .int q.2]) := by
  cases h with
  | tup e r =>
    cases r with
    | cons a r =>
      cases r with
      | cons b r =>
        cases r
        cases a
        cases b
        exact ⟨_, rfl, e⟩
theorem call_sortedU {X : Cx} (w : World) (hw : X.w = w) (hu : X.A.units + 64 < cLine) (hc : X.calm = true) : CallR X (.builtin "sorted") (fun xs H Q => ∃ (a : Addr) (kvs : List (NestedKey × V)) (ks : List (Int × Int)), xs = [V.ref a] ∧ UAt w H a kvs ∧ kvs.map (·.1) = ks.map pk ∧
    ∀ (p : Addr) (vs : List V) (ls : List (Int × Int)), H p = none → ls.Perm ks → ls.Pairwise leP → NVs H (ls.map pk) vs → Q (.ref p) (upd H p (.lst vs))) := by
  subst hw
  intro pins s σ H xs us Q I r h
  obtain ⟨a, kvs, ks, rfl, g, hk, q⟩ := h
  obtain ⟨u, rfl, ru⟩ := vals1 r
  cases ru
  obtain ⟨ys, rs, ob, es, ep, ea, ksd, c, hz, hs, rr, ud⟩ := g.ud I.hok
  have l1 : es.size = rs.length := ud.size
  have l2 : ys.length = rs.length := rr.len
  have ck : ys.map (·.1) = ks.map pk := by rw [← hk, ← c, List.map_map]; rfl
  have l3 : ys.length = ks.length := by
    have := congrArg List.length ck
    rwa [List.length_map, List.length_map] at this
  refine Calls.call_function_entry PyProof.Rows.kind_sorted PyProof.Rows.plain_sorted PyProof.Rows.entry_sorted (PyProof.Rows.args_sorted1 _) ?_
  unfold Builtin.«sorted»
  refine wpAny_bind (m := checkCount "sorted" 1 1 _) (wpAny_pure ?_)
  refine wpAny_bind (PySem.W.kdu_collect (A := X.A.in1) (kdl_raw hs ud.exact_ ud.data) (I.ok.hd hc) ud.get (by omega) fun h' tk acc hk' hacc => ?_)
  have I1 : Inv X pins σ H { s with heap := h', toks := tk } := I.kept hk'
  have hal : acc.toList.length = ys.length := by rw [Array.length_toList, hacc.1, l1, l2]
  -- the items
  have item : ∀ (j : Nat) (v : Value), acc.toList[j]? = some v → ∃ x, ys[j]? = some x ∧ RelV x.2.1 v := fun j v e => by
    obtain ⟨en, e1, rfl⟩ := hacc.2 j v (by rw [← Array.getElem?_toList]; exact e)
    have e2 := ud.at_ j
    rw [e1] at e2
    cases hj : rs[j]? with
    | none => rw [hj] at e2; cases e2
    | some y =>
      rw [hj] at e2
      obtain rfl : en = ent X.w y := Option.some.inj e2
      obtain ⟨x, hx, _, r1, _⟩ := rr.at_ hj
      exact ⟨x, hx, r1⟩
  have each : ∀ (R : Value → Trio → Prop), (∀ v x, x ∈ ys → RelV x.2.1 v → R v x) → PySem.W.EachIs R acc.toList ys := fun R hR => by
    have go : ∀ (as : List Value) (zs : List Trio), as.length = zs.length → (∀ x ∈ zs, x ∈ ys) → (∀ (j : Nat) (v : Value), as[j]? = some v → ∃ x, zs[j]? = some x ∧ RelV x.2.1 v) → PySem.W.EachIs R as zs := by
      intro as
      induction as with
      | nil =>
        intro zs hl _ _
        cases zs with
        | nil => exact .nil
        | cons _ _ => simp at hl
      | cons v as ih =>
        intro zs hl hm hi
        cases zs with
        | nil => simp at hl
        | cons z zs =>
          obtain ⟨x, hx, rx⟩ := hi 0 v rfl
          obtain rfl : z = x := Option.some.inj hx
          exact .cons (hR _ _ (hm _ List.mem_cons_self) rx) (ih zs (by simpa using hl) (fun y hy => hm y (List.mem_cons_of_mem _ hy)) fun j v e => hi (j + 1) v e)
    exact go _ _ hal (fun _ h => h) item
  refine wpAny_bind (wpAny_newList ?_ (by rw [hal]; exact hz))
  have hoL : (h'.push (seqObj "list" acc.toList.toArray 0)).get? h'.objs.size = some (seqObj "list" acc.toList.toArray 0) := Heap.get?_push_size _ rfl
  show wpAny _ _ _ _ _ { s with heap := h'.push (seqObj "list" acc.toList.toArray 0), toks := tk }
  have key : ∀ x ∈ ys, ∃ qq : Int × Int, x.1 = pk qq ∧ unpk x.1 = qq := fun x hx => by
    have : x.1 ∈ ks.map pk := by rw [← ck]; exact List.mem_map.mpr ⟨x, hx, rfl⟩
    obtain ⟨qq, _, e⟩ := List.mem_map.mp this
    exact ⟨qq, e.symm, by rw [← e]; rfl⟩
  have old : ∀ b o, h'.get? b = some o → (h'.push (seqObj "list" acc.toList.toArray 0)).get? b = some o := fun b o e => Heap.get?_push_of_some _ e
  have e1 := each (fun v x => RelV x.2.1 v) fun _ _ _ h => h
  have e2 := each (fun v x => ∃ as, Reads (h'.push (seqObj "list" acc.toList.toArray 0)) v (dPk (unpk x.1)) as ∧ h'.objs.size ∉ as) fun v x hx rx => by
    obtain ⟨qq, k1, k2⟩ := key x hx
    have nv := (ksd x hx).1
    rw [k1] at nv
    obtain ⟨t, k3, k4⟩ := trio_pk nv
    rw [k3] at rx
    obtain rfl : v = Value.ref t := rx
    obtain ⟨_, its2, r2, o, ho, hcl, n, hd⟩ := I1.hok _ _ k4
    obtain ⟨u1, u2, rfl, ri, rj⟩ := vals2 r2
    obtain ⟨t1, rfl⟩ := ri
    obtain ⟨t2, rfl⟩ := rj
    rw [k2]
    refine ⟨_, .tuple (old _ _ ho) hcl hd (.cons (.int _ _) (.cons (.int _ _) .nil)), ?_⟩
    simp
  refine wpAny_bind (wpAny_holding (PySem.W.list_sort_data (s := { s with heap := h'.push (seqObj "list" acc.toList.toArray 0), toks := tk }) (enc := fun x : Trio => dPk (unpk x.1)) (R := fun v x => RelV x.2.1 v) hoL e1 e2 (PySem.W.AllAlike.of fun b b' => by simp [dPk, PySem.W.alike, PySem.W.alikeAll]) (PySem.W.Sortable.tuples fun b => ⟨_, _, rfl⟩) hz (fun b _ => ?_) fun out ho eo => ?_))
  · have : (dPk (unpk b.1)).depth = 1 := by
      unfold dPk
      simp [PyData.depth, PyData.depthAll]
    rw [Around.in1_units]
    omega
  · obtain ⟨e', he'⟩ := PyProof.Rows.sortedHeap_at (vs := acc.toList) (out := out.toArray) hoL
    have le : ∀ x y : Trio, PySem.W.dataLe false (fun x : Trio => dPk (unpk x.1)) x y = decide (leP (unpk x.1) (unpk y.1)) := fun x y => le_dPk (unpk x.1) (unpk y.1)
    have tr : ∀ x y z : Trio, PySem.W.dataLe false (fun x : Trio => dPk (unpk x.1)) x y = true → PySem.W.dataLe false (fun x : Trio => dPk (unpk x.1)) y z = true → PySem.W.dataLe false (fun x : Trio => dPk (unpk x.1)) x z = true := fun x y z => by
      rw [le, le, le, decide_eq_true_iff, decide_eq_true_iff, decide_eq_true_iff]
      unfold leP
      omega
    have to : ∀ x y : Trio, (PySem.W.dataLe false (fun x : Trio => dPk (unpk x.1)) x y || PySem.W.dataLe false (fun x : Trio => dPk (unpk x.1)) y x) = true := fun x y => by
      rw [le, le, Bool.or_eq_true, decide_eq_true_iff, decide_eq_true_iff]
      unfold leP
      omega
    have pm : (ys.mergeSort (PySem.W.dataLe false fun x : Trio => dPk (unpk x.1))).Perm ys := List.mergeSort_perm _ _
    have pw := List.pairwise_mergeSort tr to ys
    generalize ys.mergeSort (PySem.W.dataLe false fun x : Trio => dPk (unpk x.1)) = zs at pm pw eo
    have rvs : Vals (zs.map (·.2.1)) out := by
      clear pm pw he' e' ho
      induction eo with
      | nil => exact .nil
      | cons h _ ih => exact .cons h ih
    have kz : zs.map (·.1) = (zs.map fun x => unpk x.1).map pk := by
      rw [List.map_map]
      refine List.map_congr_left fun x hx => ?_
      obtain ⟨qq, k1, k2⟩ := key x (pm.mem_iff.mp hx)
      show x.1 = pk (unpk x.1)
      rw [k2, k1]
    have nz : NVs H ((zs.map fun x => unpk x.1).map pk) (zs.map (·.2.1)) := by
      rw [← kz]
      have all : ∀ x ∈ zs, NV H x.1 x.2.1 := fun x hx => (ksd x (pm.mem_iff.mp hx)).1
      clear pm pw he' e' ho rvs kz eo
      induction zs with
      | nil => exact .nil
      | cons x r ih => exact .cons (all x List.mem_cons_self) (ih fun y hy => all y (List.mem_cons_of_mem _ hy))
    have pk1 : (zs.map fun x => unpk x.1).Perm ks := by
      have e := pm.map fun x : Trio => unpk x.1
      have : ys.map (fun x : Trio => unpk x.1) = ks := by
        have e2 : ys.map (fun x : Trio => unpk x.1) = (ys.map (·.1)).map unpk := by rw [List.map_map]; rfl
        rw [e2, ck, List.map_map]
        conv => rhs; rw [← List.map_id ks]
        rfl
      rw [this] at e
      exact e
    have pw1 : (zs.map fun x => unpk x.1).Pairwise leP := by
      rw [List.pairwise_map]
      refine pw.imp fun {x y} h => ?_
      rw [le, decide_eq_true_iff] at h
      exact h
    have hlen : (zs.map (·.2.1)).length ≤ sizeLine := by
      rw [List.length_map, pm.length_eq]
      exact hz
    refine wpAny_pure ⟨_, rfl, .ref h'.objs.size, upd H h'.objs.size (.lst (zs.map (·.2.1))), I1.laid (t' := tk) (fun b u e => ?_) (Nat.le_refl _)
      (show ObjOk X.prog X.w _ _ _ (.lst (zs.map (·.2.1))) from ⟨hlen, out, e', rvs, he'⟩), rfl, q _ _ _ (I1.hok.fresh (Nat.le_refl _)) pk1 pw1 nz⟩
    have hb : b < h'.objs.size := Heap.lt_size e
    rw [PyProof.Rows.sortedHeap_old (Nat.ne_of_lt hb) (by rw [size_push']; exact Nat.lt_succ_of_lt hb)]
    exact Heap.get?_push_of_some _ e
end LU

namespace LH
open PySem PySem.Spec PyProof.Rows L2
def topS (i : Nat) : Stmt := PySem.Challenge.pw_likehands_k78_words_with_both.main.body.getD i (.Pass ⟨0, 0, 0, 0⟩)
abbrev s_built : Stmt := topS 1
abbrev N_built : List Str := ["letters", "start", "follow", "is_end", "keys", "table", "ended", "key"]
theorem sc_built : FnScope N_built ["letters", "start", "follow", "is_end"] (defScope s_built) := ⟨rfl, rfl, rfl, by decide +kernel, rfl, by decide +kernel, by decide +kernel⟩
abbrev s_walked : Stmt := topS 2
abbrev N_walked : List Str := ["start", "follow", "numbers", "keys", "table", "row", "behind", "key"]
theorem sc_walked : FnScope N_walked ["start", "follow"] (defScope s_walked) := ⟨rfl, rfl, rfl, by decide +kernel, rfl, by decide +kernel, by decide +kernel⟩
abbrev s_parted : Stmt := topS 3
abbrev N_parted : List Str := ["table", "ended", "groups", "homes", "number", "members", "state", "backs", "at", "targets", "back", "hits", "home", "row"]
theorem sc_parted : FnScope N_parted ["table", "ended"] (defScope s_parted) := ⟨rfl, rfl, rfl, by decide +kernel, rfl, by decide +kernel, by decide +kernel⟩
abbrev s_first_groups : Stmt := topS 4
abbrev N_first_groups : List Str := ["ended", "stops", "others", "state", "stop", "group"]
theorem sc_first_groups : FnScope N_first_groups ["ended"] (defScope s_first_groups) := ⟨rfl, rfl, rfl, by decide +kernel, rfl, by decide +kernel, by decide +kernel⟩
abbrev s_ways_back : Stmt := topS 5
abbrev N_ways_back : List Str := ["table", "backs", "state", "row", "column", "target"]
theorem sc_ways_back : FnScope N_ways_back ["table"] (defScope s_ways_back) := ⟨rfl, rfl, rfl, by decide +kernel, rfl, by decide +kernel, by decide +kernel⟩
abbrev s_hits_of : Stmt := topS 6
abbrev N_hits_of : List Str := ["back", "targets", "homes", "hits", "target", "state", "home"]
theorem sc_hits_of : FnScope N_hits_of ["back", "targets", "homes"] (defScope s_hits_of) := ⟨rfl, rfl, rfl, by decide +kernel, rfl, by decide +kernel, by decide +kernel⟩
abbrev s_split_group : Stmt := topS 7
abbrev N_split_group : List Str := ["groups", "homes", "home", "hit", "members", "moved", "state", "kept"]
theorem sc_split_group : FnScope N_split_group ["groups", "homes", "home", "hit"] (defScope s_split_group) := ⟨rfl, rfl, rfl, by decide +kernel, rfl, by decide +kernel, by decide +kernel⟩
abbrev s_merged : Stmt := topS 8
abbrev N_merged : List Str := ["letters", "table", "ended", "homes", "numbers", "heads", "state", "home", "rows", "ends", "head", "target", "number"]
theorem sc_merged : FnScope N_merged ["letters", "table", "ended", "homes"] (defScope s_merged) := ⟨rfl, rfl, rfl, by decide +kernel, rfl, by decide +kernel, by decide +kernel⟩
abbrev s_least_read : Stmt := topS 9
abbrev N_least_read : List Str := ["letters", "starts", "moves", "is_end", "seen", "groups", "origins", "at", "group", "rows", "column", "letter", "fresh", "key", "row"]
theorem sc_least_read : FnScope N_least_read ["letters", "starts", "moves", "is_end"] (defScope s_least_read) := ⟨rfl, rfl, rfl, by decide +kernel, rfl, by decide +kernel, by decide +kernel⟩
abbrev s_unseen : Stmt := topS 10
abbrev N_unseen : List Str := ["lists", "seen", "fresh", "keys", "key"]
theorem sc_unseen : FnScope N_unseen ["lists", "seen"] (defScope s_unseen) := ⟨rfl, rfl, rfl, by decide +kernel, rfl, by decide +kernel, by decide +kernel⟩
abbrev s_word_to : Stmt := topS 11
abbrev N_word_to : List Str := ["number", "origins", "signs", "letter"]
theorem sc_word_to : FnScope N_word_to ["number", "origins"] (defScope s_word_to) := ⟨rfl, rfl, rfl, by decide +kernel, rfl, by decide +kernel, by decide +kernel⟩
abbrev s_rises : Stmt := topS 13
abbrev N_rises : List Str := ["row", "at"]
theorem sc_rises : FnScope N_rises ["row"] (defScope s_rises) := ⟨rfl, rfl, rfl, by decide +kernel, rfl, by decide +kernel, by decide +kernel⟩
abbrev s_both : Stmt := topS 14
abbrev N_both : List Str := ["one", "other"]
theorem sc_both : FnScope N_both ["one", "other"] (defScope s_both) := ⟨rfl, rfl, rfl, by decide +kernel, rfl, by decide +kernel, by decide +kernel⟩
abbrev s_paired : Stmt := topS 15
abbrev N_paired : List Str := ["one", "other", "wanted", "first_marks", "second_marks", "first_table", "second_table", "follow", "is_end"]
theorem sc_paired : FnScope N_paired ["one", "other", "wanted"] (defScope s_paired) := ⟨rfl, rfl, rfl, by decide +kernel, rfl, by decide +kernel, by decide +kernel⟩
abbrev s_end_marks : Stmt := topS 16
abbrev N_end_marks : List Str := ["machine", "letters", "table", "ends", "marks", "state", "row"]
theorem sc_end_marks : FnScope N_end_marks ["machine"] (defScope s_end_marks) := ⟨rfl, rfl, rfl, by decide +kernel, rfl, by decide +kernel, by decide +kernel⟩
abbrev s_least_word : Stmt := topS 17
abbrev N_least_word : List Str := ["machine", "letters", "table", "ends", "marks", "moves", "is_end"]
theorem sc_least_word : FnScope N_least_word ["machine"] (defScope s_least_word) := ⟨rfl, rfl, rfl, by decide +kernel, rfl, by decide +kernel, by decide +kernel⟩
abbrev s_machine_of : Stmt := topS 23
abbrev N_machine_of : List Str := ["letters", "pattern", "places", "starts", "follow", "is_end"]
theorem sc_machine_of : FnScope N_machine_of ["letters", "pattern"] (defScope s_machine_of) := ⟨rfl, rfl, rfl, by decide +kernel, rfl, by decide +kernel, by decide +kernel⟩
abbrev s_branches_of : Stmt := topS 24
abbrev N_branches_of : List Str := ["letters", "pattern", "branches", "branch", "items"]
theorem sc_branches_of : FnScope N_branches_of ["letters", "pattern"] (defScope s_branches_of) := ⟨rfl, rfl, rfl, by decide +kernel, rfl, by decide +kernel, by decide +kernel⟩
abbrev s_items_of : Stmt := topS 25
abbrev N_items_of : List Str := ["letters", "branch", "items", "at", "signs", "mark"]
theorem sc_items_of : FnScope N_items_of ["letters", "branch"] (defScope s_items_of) := ⟨rfl, rfl, rfl, by decide +kernel, rfl, by decide +kernel, by decide +kernel⟩
abbrev s_choice_at : Stmt := topS 26
abbrev N_choice_at : List Str := ["letters", "branch", "at", "sign"]
theorem sc_choice_at : FnScope N_choice_at ["letters", "branch", "at"] (defScope s_choice_at) := ⟨rfl, rfl, rfl, by decide +kernel, rfl, by decide +kernel, by decide +kernel⟩
abbrev s_bracket_at : Stmt := topS 27
abbrev N_bracket_at : List Str := ["letters", "branch", "at", "close", "signs", "sign"]
theorem sc_bracket_at : FnScope N_bracket_at ["letters", "branch", "at"] (defScope s_bracket_at) := ⟨rfl, rfl, rfl, by decide +kernel, rfl, by decide +kernel, by decide +kernel⟩
abbrev s_mark_at : Stmt := topS 28
abbrev N_mark_at : List Str := ["branch", "at"]
theorem sc_mark_at : FnScope N_mark_at ["branch", "at"] (defScope s_mark_at) := ⟨rfl, rfl, rfl, by decide +kernel, rfl, by decide +kernel, by decide +kernel⟩
abbrev s_places_of : Stmt := topS 29
abbrev N_places_of : List Str := ["branches", "places", "starts", "items", "signs", "mark"]
theorem sc_places_of : FnScope N_places_of ["branches"] (defScope s_places_of) := ⟨rfl, rfl, rfl, by decide +kernel, rfl, by decide +kernel, by decide +kernel⟩
abbrev s_read : Stmt := topS 30
abbrev N_read : List Str := ["places", "held", "letter", "reached", "at", "signs", "stays"]
theorem sc_read : FnScope N_read ["places", "held", "letter"] (defScope s_read) := ⟨rfl, rfl, rfl, by decide +kernel, rfl, by decide +kernel, by decide +kernel⟩
abbrev s_let_on : Stmt := topS 31
abbrev N_let_on : List Str := ["places", "numbers", "found", "number", "at"]
theorem sc_let_on : FnScope N_let_on ["places", "numbers"] (defScope s_let_on) := ⟨rfl, rfl, rfl, by decide +kernel, rfl, by decide +kernel, by decide +kernel⟩
abbrev s_with_both : Stmt := topS 33
abbrev N_with_both : List Str := ["machine", "one", "other", "letters", "with_one"]
theorem sc_with_both : FnScope N_with_both ["machine", "one", "other"] (defScope s_with_both) := ⟨rfl, rfl, rfl, by decide +kernel, rfl, by decide +kernel, by decide +kernel⟩
abbrev s_law_draws : Stmt := topS 35
abbrev N_law_draws : List Str := ["script", "draws", "k", "rest", "stir", "many"]
theorem sc_law_draws : FnScope N_law_draws ["script"] (defScope s_law_draws) := ⟨rfl, rfl, rfl, by decide +kernel, rfl, by decide +kernel, by decide +kernel⟩
abbrev s_law_take : Stmt := topS 36
abbrev N_law_take : List Str := ["draws", "many"]
theorem sc_law_take : FnScope N_law_take ["draws", "many"] (defScope s_law_take) := ⟨rfl, rfl, rfl, by decide +kernel, rfl, by decide +kernel, by decide +kernel⟩
abbrev s_law_letters : Stmt := topS 37
abbrev N_law_letters : List Str := ["draws", "most", "some", "many", "found", "k"]
theorem sc_law_letters : FnScope N_law_letters ["draws", "most"] (defScope s_law_letters) := ⟨rfl, rfl, rfl, by decide +kernel, rfl, by decide +kernel, by decide +kernel⟩
abbrev s_law_machine : Stmt := topS 38
abbrev N_law_machine : List Str := ["draws", "letters", "most", "many", "table", "k", "row", "ends", "letter"]
theorem sc_law_machine : FnScope N_law_machine ["draws", "letters", "most"] (defScope s_law_machine) := ⟨rfl, rfl, rfl, by decide +kernel, rfl, by decide +kernel, by decide +kernel⟩
abbrev s_law_first_with : Stmt := topS 40
abbrev N_law_first_with : List Str := ["machine", "one", "other", "letters", "table", "ends", "words", "line", "at", "state", "seen", "k", "more", "there"]
theorem sc_law_first_with : FnScope N_law_first_with ["machine", "one", "other"] (defScope s_law_first_with) := ⟨rfl, rfl, rfl, by decide +kernel, rfl, by decide +kernel, by decide +kernel⟩
abbrev s_law_far_machine : Stmt := topS 41
abbrev N_law_far_machine : List Str := ["draws", "letters", "one", "other", "many", "spots", "table", "k", "row", "letter", "on"]
theorem sc_law_far_machine : FnScope N_law_far_machine ["draws", "letters", "one", "other"] (defScope s_law_far_machine) := ⟨rfl, rfl, rfl, by decide +kernel, rfl, by decide +kernel, by decide +kernel⟩
abbrev s_law : Stmt := topS 42
abbrev N_law : List Str := ["script", "draws", "many", "letters", "machine", "at", "one", "other", "due", "found"]
theorem sc_law : FnScope N_law ["script"] (defScope s_law) := ⟨rfl, rfl, rfl, by decide +kernel, rfl, by decide +kernel, by decide +kernel⟩
structure TX (K : PySem.W.Frag) (mg : Str → Option Value) where
  a_built : Addr
  fd_built : FuncData
  F_built : Fun K "built" "built" s_built a_built fd_built
  b_built : Binds K fd_built ["letters", "start", "follow", "is_end"] []
  g_built : mg "built" = some (.ref a_built)
  a_walked : Addr
  fd_walked : FuncData
  F_walked : Fun K "walked" "walked" s_walked a_walked fd_walked
  b_walked : Binds K fd_walked ["start", "follow"] []
  g_walked : mg "walked" = some (.ref a_walked)
  a_parted : Addr
  fd_parted : FuncData
  F_parted : Fun K "parted" "parted" s_parted a_parted fd_parted
  b_parted : Binds K fd_parted ["table", "ended"] []
  g_parted : mg "parted" = some (.ref a_parted)
  a_first_groups : Addr
  fd_first_groups : FuncData
  F_first_groups : Fun K "first_groups" "first_groups" s_first_groups a_first_groups fd_first_groups
  b_first_groups : Binds K fd_first_groups ["ended"] []
  g_first_groups : mg "first_groups" = some (.ref a_first_groups)
  a_ways_back : Addr
  fd_ways_back : FuncData
  F_ways_back : Fun K "ways_back" "ways_back" s_ways_back a_ways_back fd_ways_back
  b_ways_back : Binds K fd_ways_back ["table"] []
  g_ways_back : mg "ways_back" = some (.ref a_ways_back)
  a_hits_of : Addr
  fd_hits_of : FuncData
  F_hits_of : Fun K "hits_of" "hits_of" s_hits_of a_hits_of fd_hits_of
  b_hits_of : Binds K fd_hits_of ["back", "targets", "homes"] []
  g_hits_of : mg "hits_of" = some (.ref a_hits_of)
  a_split_group : Addr
  fd_split_group : FuncData
  F_split_group : Fun K "split_group" "split_group" s_split_group a_split_group fd_split_group
  b_split_group : Binds K fd_split_group ["groups", "homes", "home", "hit"] []
  g_split_group : mg "split_group" = some (.ref a_split_group)
  a_merged : Addr
  fd_merged : FuncData
  F_merged : Fun K "merged" "merged" s_merged a_merged fd_merged
  b_merged : Binds K fd_merged ["letters", "table", "ended", "homes"] []
  g_merged : mg "merged" = some (.ref a_merged)
  a_least_read : Addr
  fd_least_read : FuncData
  F_least_read : Fun K "least_read" "least_read" s_least_read a_least_read fd_least_read
  b_least_read : Binds K fd_least_read ["letters", "starts", "moves", "is_end"] []
  g_least_read : mg "least_read" = some (.ref a_least_read)
  a_unseen : Addr
  fd_unseen : FuncData
  F_unseen : Fun K "unseen" "unseen" s_unseen a_unseen fd_unseen
  b_unseen : Binds K fd_unseen ["lists", "seen"] []
  g_unseen : mg "unseen" = some (.ref a_unseen)
  a_word_to : Addr
  fd_word_to : FuncData
  F_word_to : Fun K "word_to" "word_to" s_word_to a_word_to fd_word_to
  b_word_to : Binds K fd_word_to ["number", "origins"] []
  g_word_to : mg "word_to" = some (.ref a_word_to)
  a_rises : Addr
  fd_rises : FuncData
  F_rises : Fun K "rises" "rises" s_rises a_rises fd_rises
  b_rises : Binds K fd_rises ["row"] []
  g_rises : mg "rises" = some (.ref a_rises)
  a_both : Addr
  fd_both : FuncData
  F_both : Fun K "both" "both" s_both a_both fd_both
  b_both : Binds K fd_both ["one", "other"] []
  g_both : mg "both" = some (.ref a_both)
  a_paired : Addr
  fd_paired : FuncData
  F_paired : Fun K "paired" "paired" s_paired a_paired fd_paired
  b_paired : Binds K fd_paired ["one", "other", "wanted"] []
  g_paired : mg "paired" = some (.ref a_paired)
  a_end_marks : Addr
  fd_end_marks : FuncData
  F_end_marks : Fun K "end_marks" "end_marks" s_end_marks a_end_marks fd_end_marks
  b_end_marks : Binds K fd_end_marks ["machine"] []
  g_end_marks : mg "end_marks" = some (.ref a_end_marks)
  a_least_word : Addr
  fd_least_word : FuncData
  F_least_word : Fun K "least_word" "least_word" s_least_word a_least_word fd_least_word
  b_least_word : Binds K fd_least_word ["machine"] []
  g_least_word : mg "least_word" = some (.ref a_least_word)
  a_machine_of : Addr
  fd_machine_of : FuncData
  F_machine_of : Fun K "machine_of" "machine_of" s_machine_of a_machine_of fd_machine_of
  b_machine_of : Binds K fd_machine_of ["letters", "pattern"] []
  g_machine_of : mg "machine_of" = some (.ref a_machine_of)
  a_branches_of : Addr
  fd_branches_of : FuncData
  F_branches_of : Fun K "branches_of" "branches_of" s_branches_of a_branches_of fd_branches_of
  b_branches_of : Binds K fd_branches_of ["letters", "pattern"] []
  g_branches_of : mg "branches_of" = some (.ref a_branches_of)
  a_items_of : Addr
  fd_items_of : FuncData
  F_items_of : Fun K "items_of" "items_of" s_items_of a_items_of fd_items_of
  b_items_of : Binds K fd_items_of ["letters", "branch"] []
  g_items_of : mg "items_of" = some (.ref a_items_of)
  a_choice_at : Addr
  fd_choice_at : FuncData
  F_choice_at : Fun K "choice_at" "choice_at" s_choice_at a_choice_at fd_choice_at
  b_choice_at : Binds K fd_choice_at ["letters", "branch", "at"] []
  g_choice_at : mg "choice_at" = some (.ref a_choice_at)
  a_bracket_at : Addr
  fd_bracket_at : FuncData
  F_bracket_at : Fun K "bracket_at" "bracket_at" s_bracket_at a_bracket_at fd_bracket_at
  b_bracket_at : Binds K fd_bracket_at ["letters", "branch", "at"] []
  g_bracket_at : mg "bracket_at" = some (.ref a_bracket_at)
  a_mark_at : Addr
  fd_mark_at : FuncData
  F_mark_at : Fun K "mark_at" "mark_at" s_mark_at a_mark_at fd_mark_at
  b_mark_at : Binds K fd_mark_at ["branch", "at"] []
  g_mark_at : mg "mark_at" = some (.ref a_mark_at)
  a_places_of : Addr
  fd_places_of : FuncData
  F_places_of : Fun K "places_of" "places_of" s_places_of a_places_of fd_places_of
  b_places_of : Binds K fd_places_of ["branches"] []
  g_places_of : mg "places_of" = some (.ref a_places_of)
  a_read : Addr
  fd_read : FuncData
  F_read : Fun K "read" "read" s_read a_read fd_read
  b_read : Binds K fd_read ["places", "held", "letter"] []
  g_read : mg "read" = some (.ref a_read)
  a_let_on : Addr
  fd_let_on : FuncData
  F_let_on : Fun K "let_on" "let_on" s_let_on a_let_on fd_let_on
  b_let_on : Binds K fd_let_on ["places", "numbers"] []
  g_let_on : mg "let_on" = some (.ref a_let_on)
  a_with_both : Addr
  fd_with_both : FuncData
  F_with_both : Fun K "with_both" "with_both" s_with_both a_with_both fd_with_both
  b_with_both : Binds K fd_with_both ["machine", "one", "other"] []
  g_with_both : mg "with_both" = some (.ref a_with_both)
  a_law_draws : Addr
  fd_law_draws : FuncData
  F_law_draws : Fun K "_law_draws" "_law_draws" s_law_draws a_law_draws fd_law_draws
  b_law_draws : Binds K fd_law_draws ["script"] []
  g_law_draws : mg "_law_draws" = some (.ref a_law_draws)
  a_law_take : Addr
  fd_law_take : FuncData
  F_law_take : Fun K "_law_take" "_law_take" s_law_take a_law_take fd_law_take
  b_law_take : Binds K fd_law_take ["draws", "many"] []
  g_law_take : mg "_law_take" = some (.ref a_law_take)
  a_law_letters : Addr
  fd_law_letters : FuncData
  F_law_letters : Fun K "_law_letters" "_law_letters" s_law_letters a_law_letters fd_law_letters
  b_law_letters : Binds K fd_law_letters ["draws", "most"] []
  g_law_letters : mg "_law_letters" = some (.ref a_law_letters)
  a_law_machine : Addr
  fd_law_machine : FuncData
  F_law_machine : Fun K "_law_machine" "_law_machine" s_law_machine a_law_machine fd_law_machine
  b_law_machine : Binds K fd_law_machine ["draws", "letters", "most"] []
  g_law_machine : mg "_law_machine" = some (.ref a_law_machine)
  a_law_first_with : Addr
  fd_law_first_with : FuncData
  F_law_first_with : Fun K "_law_first_with" "_law_first_with" s_law_first_with a_law_first_with fd_law_first_with
  b_law_first_with : Binds K fd_law_first_with ["machine", "one", "other"] []
  g_law_first_with : mg "_law_first_with" = some (.ref a_law_first_with)
  a_law_far_machine : Addr
  fd_law_far_machine : FuncData
  F_law_far_machine : Fun K "_law_far_machine" "_law_far_machine" s_law_far_machine a_law_far_machine fd_law_far_machine
  b_law_far_machine : Binds K fd_law_far_machine ["draws", "letters", "one", "other"] []
  g_law_far_machine : mg "_law_far_machine" = some (.ref a_law_far_machine)
  m_abs : mg "abs" = none
  m_all : mg "all" = none
  m_any : mg "any" = none
  m_enumerate : mg "enumerate" = none
  m_int : mg "int" = none
  m_isinstance : mg "isinstance" = none
  m_len : mg "len" = none
  m_list : mg "list" = none
  m_min : mg "min" = none
  m_range : mg "range" = none
  m_sorted : mg "sorted" = none
  m_str : mg "str" = none
  m_sum : mg "sum" = none
  m_tuple : mg "tuple" = none
  m_zip : mg "zip" = none
  t_MOST_ITEMS : Tok
  c_MOST_ITEMS : mg "MOST_ITEMS" = some (.int 8 t_MOST_ITEMS)
/-! ### draws: lists of numbers, taken from ahead -/
def RowAt (H : Hp) (r : Addr) : Prop := ∃ ns : List Int, H r = some (.lst (ns.map V.int)) ∧ ns.length ≤ 1000
/-- all that was tracked, but for what stands at r, is as it was -/
def Off (r : Addr) (H H' : Hp) : Prop := ∀ b o, b ≠ r → H b = some o → H' b = some o
theorem Off.refl (r : Addr) (H : Hp) : Off r H H := fun _ _ _ h => h
theorem Off.trans {r : Addr} {H H1 H2 : Hp} (a : Off r H H1) (b : Off r H1 H2) : Off r H H2 := fun c o n h => b c o n (a c o n h)
theorem Off.of {r : Addr} {H H' : Hp} (a : Same H H') : Off r H H' := fun c o _ h => a c o h
theorem Off.new {r p : Addr} {H : Hp} {o : HO} (h : H p = none) : Off r H (upd H p o) := fun b x _ e => by
  rw [upd_ne (ne_of_none e h)]
  exact e
theorem Off.put {r : Addr} {H : Hp} {o : HO} : Off r H (upd H r o) := fun b x n e => by
  rw [upd_ne n]
  exact e
theorem Off.mut {r p : Addr} {H H' : Hp} {o : HO} (e : Off r H H') (h : H p = none) : Off r H (upd H' p o) := fun a u n ha => by
  rw [upd_ne (ne_of_none ha h)]
  exact e a u n ha
theorem Off.free {r p : Addr} {H H' : Hp} (e : Off r H H') (hr : r ≠ p) (h : H' p = none) : H p = none := by
  cases q : H p with
  | none => rfl
  | some o =>
    rw [e p o (Ne.symm hr) q] at h
    cases h
theorem RowAt.new {r p : Addr} {H : Hp} {o : HO} (x : RowAt H r) (h : H p = none) : RowAt (upd H p o) r := by
  obtain ⟨ns, e, q⟩ := x
  exact ⟨ns, by rw [upd_ne (ne_of_none e h)]; exact e, q⟩
theorem RowAt.upd {r p : Addr} {H : Hp} {o : HO} (x : RowAt H r) (h : r ≠ p) : RowAt (upd H p o) r := by
  obtain ⟨ns, e, q⟩ := x
  exact ⟨ns, by rw [upd_ne h]; exact e, q⟩
theorem RowAt.same {r : Addr} {H H' : Hp} (x : RowAt H r) (h : Same H H') : RowAt H' r := by
  obtain ⟨ns, e, q⟩ := x
  exact ⟨ns, h _ _ e, q⟩
theorem RowAt.ne {r p : Addr} {H : Hp} (x : RowAt H r) (h : H p = none) : r ≠ p := by
  obtain ⟨ns, e, q⟩ := x
  exact ne_of_none e h
theorem RowAt.neT {r p : Addr} {H : Hp} {xs : List V} (x : RowAt H r) (h : H p = some (.tup xs)) : p ≠ r := by
  obtain ⟨ns, e, q⟩ := x
  exact ne_of h e (by intro z; cases z)
theorem same_new {H : Hp} {p : Addr} {o : HO} (h : H p = none) : Same H (upd H p o) := fun b x e => by
  rw [upd_ne (ne_of_none e h)]
  exact e
theorem same_putN {H H' : Hp} {p : Addr} {o : HO} (e : Same H H') (h : H p = none) : Same H (L2.upd H' p o) := fun b x eb => by
  rw [upd_ne (ne_of_none eb h)]
  exact e b x eb
section
variable {P : Program} {w : World} {K : PySem.W.Frag} {mg : Str → Option Value} {base : Heap}
theorem dpI {K : PySem.W.Frag} {H : Hp} : ∀ ns : List Int, DpAll K H (ns.map V.int) (ns.map PyData.int)
  | [] => .nil
  | n :: r => .cons (.int _) (dpI r)
theorem shapedI (ns : List Int) : SeqAt.shaped (.list (ns.map PyData.int)) = true := by
  have all : PyData.canLayAll0 (ns.map PyData.int) = true ∧ PyData.depthAll (ns.map PyData.int) = 0 := by
    induction ns with
    | nil => exact ⟨rfl, rfl⟩
    | cons n r ih =>
      refine ⟨?_, ?_⟩
      · show (true && PyData.canLayAll0 (r.map PyData.int)) = true
        rw [ih.1]
        rfl
      · show max 0 (PyData.depthAll (r.map PyData.int)) = 0
        rw [ih.2]
        rfl
  unfold SeqAt.shaped
  rw [Bool.and_eq_true]
  refine ⟨all.1, decide_eq_true ?_⟩
  show PyData.depthAll (ns.map PyData.int) + 1 ≤ 64
  omega
theorem eqv_nilI (ns : List Int) : PyData.eqv (.list (ns.map PyData.int)) (.list []) = decide (ns = []) := by
  cases ns with
  | nil => rfl
  | cons x r => simp [PyData.eqv, PyData.eqvAll]
theorem vI_snoc (ns : List Int) (x : Int) : ns.map V.int ++ [V.int x] = (ns ++ [x]).map V.int := by
  rw [List.map_append]
  rfl
theorem vI_at {ns : List Int} {j : Nat} {x : V} (h : (ns.map V.int)[j]? = some x) : ∃ c, ns[j]? = some c ∧ x = .int c := by
  rw [List.getElem?_map] at h
  obtain ⟨c, e, z⟩ := Option.map_eq_some_iff.mp h
  exact ⟨c, e, z.symm⟩
theorem vI_get {ns : List Int} {j : Nat} {c : Int} (h : ns[j]? = some c) : (ns.map V.int)[j]? = some (.int c) := by
  rw [List.getElem?_map, h]
  rfl
theorem vI_of : ∀ ys : List V, (∀ y ∈ ys, ∃ c, y = V.int c) → ∃ cs : List Int, ys = cs.map V.int
  | [], _ => ⟨[], rfl⟩
  | y :: r, h => by
    obtain ⟨c, rfl⟩ := h y List.mem_cons_self
    obtain ⟨cs, rfl⟩ := vI_of r fun z hz => h z (List.mem_cons_of_mem _ hz)
    exact ⟨c :: cs, rfl⟩
/-! ### _law_take -/
def sp_law_take : Sp := fun vs H Q _ => ∃ (r : Addr) (n : Int), vs = [.ref r, .int n] ∧ RowAt H r ∧ 0 < n ∧ n < 1073741824 ∧ ∀ H' g, Off r H H' → RowAt H' r → 0 ≤ g → g < n → Q (.int g) H'
theorem ok_law_take (T : TX K mg) : FnOk P w K mg base CX0 1 T.a_law_take T.fd_law_take ["draws", "many"] sp_law_take := by
  refine T.F_law_take.ok sc_law_take (fun vs H Q E h => ?_) (fun cdv A outer s H vs Q E hr h => ?_)
  · obtain ⟨r, n, rfl, _⟩ := h
    rfl
  · obtain ⟨r, n, rfl, hR, n0, n1, q⟩ := h
    refine ⟨_, (pss_cons (ps_if (pt_cmpR (op_eqD hr.units) (pv 0) (pe_lst pa_nil) (nomark _))
        (pss_one (ps_ret pe_int))
        pss_nil)
      (pss_one (ps_ret (pe_op op_mod (pe_bmK K rfl PySem.F.plainAttrs_list PySem.F.slot_list_pop PySem.F.type_list_pop mt_popAt (pv 0) (pa_cons pe_int pa_nil)) (pv 1))))), ?_⟩
    obtain ⟨ns, er, hl⟩ := hR
    refine ⟨.ref r, rfl, by show 0 ≤ sizeLine; decide, fun e ne => ?_⟩
    have s1 := same_new (o := .lst []) ne
    have R1 : RowAt (L2.upd H e (.lst [])) r := ⟨ns, s1 _ _ er, hl⟩
    have er1 := s1 _ _ er
    refine ⟨.list (ns.map PyData.int), .list [], .lst (.inl (.inl er1)) (dpI ns), .lst (.inl (.inl upd_same)) .nil, shapedI ns, by decide +kernel, _, rfl, ?_⟩
    rw [eqv_nilI]
    generalize L2.upd H e (.lst []) = H1 at s1 R1 er1
    refine ite2 (fun _ => q _ 0 (Off.of s1) R1 (Int.le_refl _) n0) (fun z => ?_)
    have hne : ns ≠ [] := fun h => z (decide_eq_true h)
    match ns, hne, er1, hl with
    | v :: t, _, er1, hl =>
      refine ⟨.ref r, rfl, .inl ⟨rfl, _, .inl (.inl er1)⟩, r, _, 0, 0, .int v, rfl, rfl, er1, by decide, by decide, seqIx (by decide) (by rw [List.length_map, List.length_cons]; omega), rfl, .int n, rfl, v, n, rfl, rfl, n0, ?_⟩
      exact q _ _ ((Off.of s1).trans Off.put) ⟨t, upd_same, by rw [List.length_cons] at hl; omega⟩ (Int.emod_nonneg _ (by omega)) (Int.emod_lt_of_pos _ n0)
end
end LH

namespace LH
open PySem PySem.Spec PyProof.Rows L2
/-! ### machines in the heap -/
abbrev vi (ns : List Nat) : List V := ns.map fun (n : Nat) => V.int (n : Int)
theorem vi_snoc (ys : List Nat) (c : Nat) : vi ys ++ [V.int (c : Int)] = vi (ys ++ [c]) := by
  show _ = List.map _ (ys ++ [c])
  rw [List.map_append]
  rfl
abbrev vr (as : List Addr) : List V := as.map V.ref
theorem vr_snoc (ys : List Addr) (c : Addr) : vr ys ++ [V.ref c] = vr (ys ++ [c]) := by
  show _ = List.map _ (ys ++ [c])
  rw [List.map_append]
  rfl
structure Mach where
  z : Str
  rows : List (List Nat)
  ends : List Nat
structure Mach.Ok (M : Mach) : Prop where
  let_ : IsLet M.z
  many : 1 ≤ M.rows.length
  row : ∀ r ∈ M.rows, r.length = M.z.length ∧ ∀ t ∈ r, t < M.rows.length
  endl : ∀ e ∈ M.ends, e < M.rows.length
  rise : M.ends.Pairwise (· < ·)
def RowsAt (H : Hp) (as : List Addr) (rows : List (List Nat)) : Prop := as.length = rows.length ∧ ∀ (i : Nat) (a : Addr) (row : List Nat), as[i]? = some a → rows[i]? = some row → H a = some (.tup (vi row))
def MachAt (H : Hp) (p : Addr) (M : Mach) : Prop := ∃ t e as, H p = some (.tup [.str M.z, .ref t, .ref e]) ∧ H t = some (.tup (vr as)) ∧ RowsAt H as M.rows ∧ H e = some (.tup (vi M.ends))
/-- tuples stand -/
def Tups (H H' : Hp) : Prop := ∀ b xs, H b = some (.tup xs) → H' b = some (.tup xs)
theorem Tups.refl (H : Hp) : Tups H H := fun _ _ h => h
theorem Tups.trans {H H1 H2 : Hp} (a : Tups H H1) (b : Tups H1 H2) : Tups H H2 := fun c o h => b c o (a c o h)
theorem Tups.same {H H' : Hp} (a : Same H H') : Tups H H' := fun c _ h => a c _ h
theorem Tups.off {r : Addr} {H H' : Hp} (R : RowAt H r) (a : Off r H H') : Tups H H' := fun c _ h => a c _ (R.neT h) h
theorem Tups.new {p : Addr} {H : Hp} {o : HO} (h : H p = none) : Tups H (upd H p o) := Tups.same (same_new h)
theorem Tups.lst {p : Addr} {H : Hp} {xs : List V} {o : HO} (h : H p = some (.lst xs)) : Tups H (upd H p o) := fun c ys e => by
  rw [upd_ne (ne_of e h (by intro z; cases z))]
  exact e
theorem RowsAt.mono {H H' : Hp} {as : List Addr} {rows : List (List Nat)} (t : Tups H H') (h : RowsAt H as rows) : RowsAt H' as rows := ⟨h.1, fun i a row x y => t _ _ (h.2 i a row x y)⟩
theorem MachAt.mono {H H' : Hp} {p : Addr} {M : Mach} (t : Tups H H') (h : MachAt H p M) : MachAt H' p M := by
  obtain ⟨a, b, c, h1, h2, h3, h4⟩ := h
  exact ⟨a, b, c, t _ _ h1, t _ _ h2, h3.mono t, t _ _ h4⟩
theorem RowsAt.snoc {H : Hp} {as : List Addr} {rows : List (List Nat)} {a : Addr} {row : List Nat} (h : RowsAt H as rows) (ha : H a = some (.tup (vi row))) : RowsAt H (as ++ [a]) (rows ++ [row]) := by
  refine ⟨by rw [List.length_append, List.length_append, h.1]; rfl, fun i b r x y => ?_⟩
  by_cases hi : i < as.length
  · rw [List.getElem?_append_left hi] at x
    rw [List.getElem?_append_left (by rw [← h.1]; exact hi)] at y
    exact h.2 i b r x y
  · rw [List.getElem?_append_right (by omega)] at x
    rw [List.getElem?_append_right (by rw [← h.1]; omega), ← h.1] at y
    have e : i - as.length = 0 := by
      cases q : i - as.length with
      | zero => rfl
      | succ k =>
        rw [q] at x
        simp at x
    rw [e] at x y
    cases x
    cases y
    exact ha
theorem mem_snoc {α : Type} {p : α → Prop} {xs : List α} {x : α} (h : ∀ y ∈ xs, p y) (hx : p x) : ∀ y ∈ xs ++ [x], p y := fun y hy => by
  rcases List.mem_append.mp hy with q | q
  · exact h y q
  · rw [List.mem_singleton.mp q]
    exact hx
section
variable {P : Program} {w : World} {K : PySem.W.Frag} {mg : Str → Option Value} {base : Heap}
end
end LH

namespace LH
open PySem PySem.Spec PyProof.Rows L2
/-! ### what a machine has -/
def Mach.step (M : Mach) (s c : Nat) : Nat := (M.rows.getD s []).getD (M.z.cps.toList.idxOf c) 0
def Mach.run (M : Mach) (cs : List Nat) : Nat := cs.foldl M.step 0
def Mach.has (M : Mach) (cs : List Nat) : Bool := decide (M.run cs ∈ M.ends)
theorem inV_vi (n : Nat) : ∀ ns : List Nat, inV (.int (n : Int)) (vi ns) = decide (n ∈ ns)
  | [] => rfl
  | a :: r => by
    show (((a : Int) == (n : Int)) || inV (.int (n : Int)) (vi r)) = _
    rw [inV_vi n r]
    by_cases e : a = n
    · subst e
      simp
    · have e1 : ((a : Int) == (n : Int)) = false := beq_eq_false_iff_ne.mpr (by omega)
      have e2 : ¬ n = a := fun q => e q.symm
      rw [e1]
      simp [e2]
theorem flat_vi : ∀ ns : List Nat, (vi ns).all flatV = true
  | [] => rfl
  | _ :: r => flat_vi r
theorem idx_lt {z : Str} {c : Nat} (h : c ∈ z.cps.toList) : z.cps.toList.idxOf c < z.length := by
  have := List.idxOf_lt_length_iff.mpr h
  rw [Array.length_toList] at this
  exact this
theorem Mach.Ok.row_at {M : Mach} (k : M.Ok) {s : Nat} (h : s < M.rows.length) : ∃ row, M.rows[s]? = some row ∧ M.rows.getD s [] = row ∧ row.length = M.z.length ∧ ∀ t ∈ row, t < M.rows.length := by
  refine ⟨M.rows[s], List.getElem?_eq_getElem h, ?_, k.row _ (List.getElem_mem h)⟩
  rw [List.getD_eq_getElem?_getD, List.getElem?_eq_getElem h]
  rfl
theorem Mach.Ok.step_at {M : Mach} (k : M.Ok) {s c : Nat} (h : s < M.rows.length) (hc : c ∈ M.z.cps.toList) : ∃ row, M.rows[s]? = some row ∧ row[M.z.cps.toList.idxOf c]? = some (M.step s c) ∧ M.step s c < M.rows.length := by
  obtain ⟨row, e, g, l, t⟩ := k.row_at h
  have hi : M.z.cps.toList.idxOf c < row.length := by
    rw [l]
    exact idx_lt hc
  have es : M.step s c = row[M.z.cps.toList.idxOf c] := by
    unfold Mach.step
    rw [g, List.getD_eq_getElem?_getD, List.getElem?_eq_getElem hi]
    rfl
  refine ⟨row, e, ?_, ?_⟩
  · rw [es, List.getElem?_eq_getElem hi]
  · rw [es]
    exact t _ (List.getElem_mem hi)
theorem Mach.Ok.run_lt {M : Mach} (k : M.Ok) : ∀ (cs : List Nat) (s : Nat), s < M.rows.length → (∀ c ∈ cs, c ∈ M.z.cps.toList) → cs.foldl M.step s < M.rows.length
  | [], _, h, _ => h
  | c :: r, s, h, hc => by
    obtain ⟨_, _, _, q⟩ := k.step_at h (hc c (List.mem_cons_self ..))
    exact Mach.Ok.run_lt k r _ q fun d hd => hc d (List.mem_cons_of_mem _ hd)
theorem run_snoc (M : Mach) {cs : List Nat} {i c : Nat} (h : cs[i]? = some c) : M.run (cs.take (i + 1)) = M.step (M.run (cs.take i)) c := by
  rw [List.take_add_one, h]
  unfold Mach.run
  rw [List.foldl_append]
  rfl
theorem RowsAt.get {H : Hp} {as : List Addr} {rows : List (List Nat)} {s : Nat} {row : List Nat} (h : RowsAt H as rows) (e : rows[s]? = some row) : ∃ a, as[s]? = some a ∧ (vr as)[s]? = some (.ref a) ∧ H a = some (.tup (vi row)) := by
  have hs : s < as.length := by
    rw [h.1]
    exact (List.getElem?_eq_some_iff.mp e).1
  refine ⟨as[s], List.getElem?_eq_getElem hs, ?_, h.2 s _ _ (List.getElem?_eq_getElem hs) e⟩
  rw [List.getElem?_map, List.getElem?_eq_getElem hs]
  rfl
end LH

namespace LH
open PySem PySem.Spec PyProof.Rows L2
/-! ### name = {k: v for ..}; walks of pairs by a K of their own -/
abbrev InBlk (X : Cx) (scope : Scope) (J : Cx → Prop) : Prop := ∀ (s : Shared) (H : Hp) (C : Addr) (cl : List (Str × Addr)) (fp : List Addr), J (X.blk s H scope (compEnvC scope cl C X.env) fp)
section
variable {X : Cx}
theorem ps_setDc {i : Nat} {y : Str} {py dp sp : Pos} {kx vx tg it : Expr} {ifs : List Expr} {scope : Scope} {own : List (Str × Nat)} {wi : TI} {g : TG} {tt : TT} {tk tv : TE} (calm : X.calm = true) (nd : X.N.Nodup) (hy : X.N[i]? = some y) (loc : X.env.scope.names.lookup y = some .local)
    (sw : swapsWith (.DictComp kx vx [⟨tg, it, ifs, 0⟩] scope dp) (some (.Name y py)) sp.line X.env = pure true) (hi : PI X tg it wi) (ok : BlkOk X.N X.env.scope scope own) (hg : InBlk X scope fun Y => PG Y tg g) (ht : InBlk X scope fun Y => PTs Y ifs tt) (hk : InBlk X scope fun Y => PE Y kx tk) (hv : InBlk X scope fun Y => PE Y vx tv)
    (hf : ∀ x, foldedSetIterable it X.env x = pure x := by intro _; rfl) : PS X (.Assign [.Name y py] (.DictComp kx vx [⟨tg, it, ifs, 0⟩] scope dp) sp) (tAsg (tDc wi g tt tk tv (own.map (·.2))) (gName i)) := by
  refine ⟨fun pins s σ H D I q0 => ?_⟩
  have q1 : tDc wi g tt tk tv (own.map (·.2)) σ H (fun x H1 => gName i x σ H1 D.nx) := q0
  rw [exec_Assign_Name_used _ _ _ _ sw]
  refine wpAny_bind (wpAny_standAt (wpAny_bind ?_))
  show wpAny _ X.A (do let _ ← comprehension (.DictComp kx vx [⟨tg, it, ifs, 0⟩] scope dp) scope X.env (firstIterPos [⟨tg, it, ifs, 0⟩] dp) newDict false (eval it X.env) (some (assign (.Name y py) X.env))) _ _ s
  refine wpAny_bind (thn (dc_core (Qf := fun _ s' => SP X pins D .next s') calm nd I hi ok hg ht hk hv hf q1 fun L C s' m H' I' q hn f => ?_) fun _ s' z => wpAny_pure (wpAny_pure z))
  show wpAny _ _ (assign (.Name y py) X.env (V.ref L |> fun _ => Value.ref L)) _ _ _
  refine wpAny_assign_Name (store_ok2 (v := V.ref L) I' nd hy (.inl loc) rfl (fun s2 I2 st => ?_) (.inr loc))
  obtain ⟨a, sb, ha⟩ := st
  have na : C ≠ a := by rcases ha with z | z; (· rw [z]; exact f.2.1); (· exact fun e => f.2.2.2.2.1 y a z e.symm)
  exact ⟨m, hn.sameBut sb na, fun h3 sb3 => ⟨_, H', I2.turned (t' := s2.toks) (fun b o hb e => (sb3.2 b hb).trans e) f.1 f.2.1 f.2.2.2.1 f.2.2.2.2.1 f.2.2.2.2.2, q⟩⟩
theorem sw_trueD {kx vx : Expr} {gs : List Comprehension} {scope : Scope} {pos py : Pos} {y : Str} {l : Nat} {env : Env} (hk : env.scope.kind = .function) (hy : env.scope.names.lookup y = some .local) (hl : (py.line == pos.line) = true) (ha : (scope.names.any fun (n, k) => n == y && (k == .local || k == .cell)) = false) :
    swapsWith (.DictComp kx vx gs scope pos) (some (.Name y py)) l env = pure true := by
  have b : env.blockKind = .function := by rw [Env.blockKind, hk]; rfl
  have k : env.kindOf y = some .local := hy
  unfold swapsWith
  simp only [b, k, ha, Expr.pos, hl]
  rfl
variable (K : PySem.W.Frag) (hK : X.K = K)
include hK
theorem pi_enumK {e : Expr} {ta : TA} {p pos tp : Pos} {elts : List Expr} {kk : Nat} (hg : Gl X "enumerate") (hm : X.mg "enumerate" = none) (ha : PA X [e] ta) (hs : starEach [e] X.env = [(false, eval e X.env)] := by rfl) : PI X (.Tuple elts kk tp) (.Call (.Name "enumerate" p) [e] [] pos) (iEnum K ta) := by subst hK; exact pi_enum hg hm ha hs
end
/-! ### walks of dicts of whole numbers -/
abbrev dk (g : List Nat) : List (Key × V) := g.map fun (s : Nat) => (Sum.inl (s : Int), V.bl true)
theorem valV_dk (s : Nat) : ∀ g : List Nat, valV (dk g) (Sum.inl (s : Int) : Key) = if s ∈ g then some (.bl true) else none
  | [] => rfl
  | a :: r => by
    show valV ((Sum.inl (a : Int), V.bl true) :: dk r) (Sum.inl (s : Int) : Key) = _
    by_cases e : a = s
    · subst e
      rw [valV_pos rfl, if_pos (List.mem_cons_self ..)]
    · rw [valV_neg (fun q => e (by have := Sum.inl.inj q; omega)), valV_dk s r]
      have : (s ∈ a :: r) ↔ s ∈ r := ⟨fun h => by
        rcases List.mem_cons.mp h with z | z
        · exact absurd z.symm e
        · exact z, fun h => List.mem_cons_of_mem _ h⟩
      by_cases h : s ∈ r
      · rw [if_pos h, if_pos (this.mpr h)]
      · rw [if_neg h, if_neg (fun z => h (this.mp z))]
theorem putK_dk {s : Nat} {g : List Nat} (h : s ∉ g) : putK (dk g) (Sum.inl (s : Int) : Key) (.bl true) = dk (g ++ [s]) := by
  unfold putK
  rw [valV_any, valV_dk, if_neg h, if_neg (by decide)]
  show _ = List.map _ (g ++ [s])
  rw [List.map_append]
  rfl
theorem putK_dk_in {s : Nat} {g : List Nat} (h : s ∈ g) : putK (dk g) (Sum.inl (s : Int) : Key) (.bl true) = dk g := by
  unfold putK
  rw [valV_any, valV_dk, if_pos h, if_pos (by decide)]
  show List.map _ (List.map _ g) = List.map _ g
  rw [List.map_map]
  refine List.map_congr_left fun a _ => ?_
  show (if (Sum.inl (a : Int) : Key) = Sum.inl (s : Int) then ((Sum.inl (a : Int) : Key), V.bl true) else (Sum.inl (a : Int), V.bl true)) = _
  split <;> rfl
theorem dropK_dk (s : Nat) (g : List Nat) : dropK (dk g) (Sum.inl (s : Int) : Key) = dk (g.filter fun a => decide (a ≠ s)) := by
  unfold dropK
  show List.filter _ (List.map _ g) = List.map _ (g.filter _)
  rw [List.filter_map]
  congr 1
  refine List.filter_congr fun a _ => ?_
  show decide ((Sum.inl (a : Int) : Key) ≠ Sum.inl (s : Int)) = decide (a ≠ s)
  by_cases e : a = s
  · subst e
    simp
  · have h2 : ¬ ((Sum.inl (a : Int) : Key) = Sum.inl (s : Int)) := fun q => e (by have := Sum.inl.inj q; omega)
    simp only [ne_eq, h2, e, not_false_eq_true, decide_true]
theorem keys_dk (g : List Nat) : (dk g).map (fun kv => kV kv.1) = vi g := by
  show List.map _ (List.map _ g) = _
  rw [List.map_map]
  rfl
theorem dk_get {g : List Nat} {i : Nat} {k : Key} {v : V} (h : (dk g)[i]? = some (k, v)) : ∃ s, g[i]? = some s ∧ k = Sum.inl (s : Int) ∧ v = .bl true := by
  rw [List.getElem?_map] at h
  cases e : g[i]? with
  | none =>
    rw [e] at h
    cases h
  | some s =>
    rw [e] at h
    cases h
    exact ⟨s, rfl, rfl, rfl⟩
/-- a dict comprehension over anything that walks: Pv by the turn and the heap (the new dict at D within) -/
theorem dc_it {J : It} {n : Nat} {G : Hp → Prop} {Y : Nat → Hp → V → Hp → Prop} (w : Walk J n G Y) {g : TG} {tt : TT} {tk tv : TE} {vs : List Nat} {σ : L2.St} {H1 : Hp} {D : Addr} {Qd : Hp → Prop} (Pv : Nat → Hp → Prop) (p0 : Pv 0 (upd H1 D (.dK []))) (pG : ∀ i H, i ≤ n → Pv i H → G H)
    (turn : ∀ i x H H', i < n → Pv i H → Y i H x H' → g x (wipe σ vs) H' fun σ2 H2 => wipe σ2 vs = wipe σ vs ∧ tt σ2 H2 fun b H3 => if b = true then tk σ2 H3 fun y H4 => tv σ2 H4 fun z H5 => ∃ kvs k, y = kV k ∧ H5 D = some (.dK kvs) ∧ kvs.length < sizeLine ∧ Pv (i + 1) (upd H5 D (.dK (putK kvs k z))) else Pv (i + 1) H3) (last : ∀ H, Pv n H → Qd H) :
    ∃ W : Nat → Nat → Hp → Prop, (∃ m, W 0 m (upd H1 D (.dK []))) ∧ ∀ i m H, W i m H → (J.stop i H ∧ Qd H) ∨ (J.go i H ∧ ∃ Nx : Hp → Prop, (∀ H', Nx H' → ∃ m', m' < m ∧ W (i + 1) m' H') ∧ ∀ x H', J.yld i H x H' → g x (wipe σ vs) H' fun σ2 H2 => wipe σ2 vs = wipe σ vs ∧ tt σ2 H2 fun b H3 =>
      if b = true then tk σ2 H3 fun y H4 => tv σ2 H4 fun z H5 => ∃ kvs k, y = kV k ∧ H5 D = some (.dK kvs) ∧ kvs.length < sizeLine ∧ Nx (upd H5 D (.dK (putK kvs k z))) else Nx H3) := by
  refine ⟨fun i m H => m + i = n ∧ Pv i H, ⟨n, rfl, p0⟩, fun i m H z => ?_⟩
  obtain ⟨e, p⟩ := z
  have q := pG i H (by omega) p
  cases m with
  | zero =>
    have e' : i = n := by omega
    subst e'
    exact Or.inl ⟨w.stops H q, last H p⟩
  | succ m => exact Or.inr ⟨w.goes i H (by omega) q, Pv (i + 1), fun H' p' => ⟨m, Nat.lt_succ_self m, by omega, p'⟩, fun x H' y => turn i x H H' (by omega) p (w.yields i H x H' (by omega) q y)⟩
/-! ### counting -/
theorem len_le_of_sub {α : Type} [DecidableEq α] : ∀ {xs ys : List α}, xs.Nodup → (∀ x ∈ xs, x ∈ ys) → xs.length ≤ ys.length
  | [], _, _, _ => Nat.zero_le _
  | x :: xs, ys, nd, h => by
    have hx := h x (List.mem_cons_self ..)
    have nd' := List.nodup_cons.mp nd
    have ih := len_le_of_sub (xs := xs) (ys := ys.erase x) nd'.2 fun y hy => by
      have hne : y ≠ x := fun e => nd'.1 (e ▸ hy)
      exact (List.mem_erase_of_ne hne).mpr (h y (List.mem_cons_of_mem _ hy))
    rw [List.length_erase_of_mem hx] at ih
    have := List.length_pos_of_mem hx
    show xs.length + 1 ≤ ys.length
    omega
theorem all_of_len {xs ys : List Nat} (nx : xs.Nodup) (h : ∀ x ∈ xs, x ∈ ys) (l : ys.length ≤ xs.length) : ∀ y ∈ ys, y ∈ xs := fun y hy => by
  by_cases q : y ∈ xs
  · exact q
  · have := len_le_of_sub (xs := y :: xs) (ys := ys) (List.nodup_cons.mpr ⟨q, nx⟩) fun z hz => by
      rcases List.mem_cons.mp hz with rfl | hz
      · exact hy
      · exact h z hz
    have : xs.length + 1 ≤ ys.length := this
    omega
end LH

namespace LH
open PySem PySem.Spec PyProof.Rows L2 NdefX LamX
/-! ### captured cells, tracked: so that a made function may be handed on -/
def CellO (c : Addr) (o : Obj) : HO := .ext fun h => h.get? c = some o
structure CellsT (H : Hp) (cl : List (Str × Addr)) (fr : List Str) (ws : List (Option V)) : Prop where
  len : ws.length = fr.length
  inj : ∀ x y c, cl.lookup x = some c → cl.lookup y = some c → x = y
  all : ∀ y c, cl.lookup y = some c → ∃ o v, H c = some (CellO c o) ∧ o.data = .cell v
  has : ∀ (i : Nat) (y : Str), fr[i]? = some y → ∃ c, cl.lookup y = some c ∧ ∀ v, ws[i]? = some (some v) → ∃ o u, H c = some (CellO c o) ∧ o.data = .cell (some u) ∧ RelV v u
theorem CellsT.same {H H' : Hp} {cl : List (Str × Addr)} {fr : List Str} {ws : List (Option V)} (C : CellsT H cl fr ws) (e : ∀ b o, H b = some (CellO b o) → H' b = some (CellO b o)) : CellsT H' cl fr ws := by
  refine ⟨C.len, C.inj, fun y c h => ?_, fun i y h => ?_⟩
  · obtain ⟨o, v, a, b⟩ := C.all y c h
    exact ⟨o, v, e _ _ a, b⟩
  · obtain ⟨c, a, b⟩ := C.has i y h
    refine ⟨c, a, fun v hv => ?_⟩
    obtain ⟨o, u, x, z⟩ := b v hv
    exact ⟨o, u, e _ _ x, z⟩
abbrev inC (cl : List (Str × Addr)) (b : Addr) : Prop := ∃ y, cl.lookup y = some b
open Classical in
noncomputable def hide (S : Addr → Prop) (H : Hp) : Hp := fun b => if S b then none else H b
open Classical in
noncomputable def back (S : Addr → Prop) (H H' : Hp) : Hp := fun b => if S b then H b else H' b
section
variable {S : Addr → Prop} {H H' : Hp} {b : Addr}
theorem hide_in (h : S b) : hide S H b = none := by unfold hide; rw [if_pos h]
theorem hide_out (h : ¬ S b) : hide S H b = H b := by unfold hide; rw [if_neg h]
theorem hide_some {o : HO} (h : hide S H b = some o) : ¬ S b ∧ H b = some o := by
  by_cases z : S b
  · rw [hide_in z] at h
    cases h
  · rw [hide_out z] at h
    exact ⟨z, h⟩
theorem back_in (h : S b) : back S H H' b = H b := by unfold back; rw [if_pos h]
theorem back_out (h : ¬ S b) : back S H H' b = H' b := by unfold back; rw [if_neg h]
end
theorem cellO_at {P : Program} {w : World} {H : Hp} {h : Heap} {c : Addr} {o : Obj} (hok : HOk P w H h) (e : H c = some (CellO c o)) : h.get? c = some o := (hok c _ e).1
theorem cellO_ok {P : Program} {w : World} {H : Hp} {h : Heap} {c : Addr} {o : Obj} (e : h.get? c = some o) : ObjOk P w H h c (CellO c o) := ⟨e, ⟨o, e⟩, fun h1 h2 a k => k o a⟩
/-- what is hidden is no own dict, no tuple -/
theorem hok_hide {P : Program} {w : World} {S : Addr → Prop} {H : Hp} {h : Heap} (hok : HOk P w H h) (ext : ∀ b, S b → ∃ o, H b = some (CellO b o)) : HOk P w (hide S H) h := fun a o e => by
  obtain ⟨_, e⟩ := hide_some e
  refine (hok a o e).stay (fun _ _ _ q => q) (fun b q => ?_) fun b xs q => ?_
  · rw [hide_out (fun z => by
      obtain ⟨o, y⟩ := ext b z
      rw [q] at y
      cases y)]
    exact q
  · rw [hide_out (fun z => by
      obtain ⟨o, y⟩ := ext b z
      rw [q] at y
      cases y)]
    exact q
section
variable {P : Program} {w : World} {K : PySem.W.Frag} {mg : Str → Option Value} {base : Heap} {k : Nat} {f : Addr} {F : NF} {ps fr : List Str} {sp : List (Option V) → Sp} {A : Around} {outer : List Env} {s : Shared} {H : Hp} {us : List Value} {vs : List V} {ws : List (Option V)} {Q : VK} {E : XK}
/-- a made function called where its cells are tracked -/
theorem run_cell (Fn : NOk P w K mg base CX0 k f F ps fr sp) (hr : Room k A) (e0 : Env0 P w K mg base A outer s H) (hf : H f = some (FnO f F)) (hc : H F.c = some (CodeO F.c F.qual)) (C : CellsT H F.cl fr ws) (r : Vals vs us) (q : sp ws vs (hide (inC F.cl) H) (fun v H' => (∀ b, inC F.cl b → H' b = none) → Q v (back (inC F.cl) H H')) E) :
    codeAny (model P w) A (.call (.ref f) ⟨us, []⟩) (CR CX0 outer P w H s Q E) s := by
  have ext : ∀ b, inC F.cl b → ∃ o, H b = some (CellO b o) := fun b ⟨y, hy⟩ => by
    obtain ⟨o, v, z, _⟩ := C.all y b hy
    exact ⟨o, z⟩
  have cellD : ∀ b, inC F.cl b → ∃ o v, H b = some (CellO b o) ∧ s.heap.get? b = some o ∧ o.data = .cell v := fun b ⟨y, hy⟩ => by
    obtain ⟨o, v, z, d⟩ := C.all y b hy
    exact ⟨o, v, z, cellO_at e0.hok z, d⟩
  have nf : ¬ inC F.cl f := fun z => by
    obtain ⟨o, v, _, g, d⟩ := cellD f z
    obtain ⟨od, sl, doc, pm, ctv, ho⟩ := fnO_at e0.hok hf
    rw [ho] at g
    cases g
    cases d
  have nc : ¬ inC F.cl F.c := fun z => by
    obtain ⟨o, v, _, g, d⟩ := cellD _ z
    have : HOk P w H s.heap := e0.hok
    obtain ⟨oc, vs', t, h1, h2, _⟩ := (this _ _ hc).1
    rw [h1] at g
    cases g
    rw [h2] at d
    cases d
  have e1 : Env0 P w K mg base A outer s (hide (inC F.cl) H) := ⟨e0.frames, e0.mod, fun b o hb => ⟨(e0.bs b o hb).1, by
      by_cases z : inC F.cl b
      · exact hide_in z
      · rw [hide_out z]; exact (e0.bs b o hb).2⟩, e0.bsz, e0.funs, fun b hb => by
      by_cases z : inC F.cl b
      · exact hide_in z
      · rw [hide_out z]; exact e0.frf b hb, hok_hide e0.hok ext, e0.bare⟩
  have CA : CellsAt F.cl fr ws s.heap (hide (inC F.cl) H) := by
    refine ⟨C.len, fun y c hy => ⟨hide_in ⟨y, hy⟩, ?_⟩, C.inj, fun i y hy => ?_⟩
    · obtain ⟨o, v, _, g, d⟩ := cellD c ⟨y, hy⟩
      exact ⟨v, o, g, d⟩
    · obtain ⟨c, hc, hv⟩ := C.has i y hy
      refine ⟨c, hc, fun v ev => ?_⟩
      obtain ⟨o, u, z, d, rv⟩ := hv v ev
      exact ⟨u, rv, o, cellO_at e0.hok z, d⟩
  refine codeAny_mono (Fn.run A outer s (hide (inC F.cl) H) us vs ws _ E hr e1 (by rw [hide_out nf]; exact hf) (by rw [hide_out nc]; exact hc) CA r q) fun res s' hq => ?_
  cases res with
  | error e => exact hq
  | ok fl =>
    cases fl with
    | next => exact hq
    | brk => exact hq
    | cont => exact hq
    | ret u =>
      obtain ⟨v, H1, os, bare, un, hok, rv, q1⟩ := hq
      have out : ∀ b, H b = none → ¬ inC F.cl b := fun b n z => by
        obtain ⟨o, y⟩ := ext b z
        rw [n] at y
        cases y
      have outx : ∀ b x, H b = some x → (∀ o, x ≠ CellO b o) → ¬ inC F.cl b := fun b x e n z => by
        obtain ⟨o, y⟩ := ext b z
        rw [e] at y
        exact n o (Option.some.inj y)
      have h1n : ∀ b, inC F.cl b → H1 b = none := fun b z => by
        obtain ⟨o, v, _, g, _⟩ := cellD b z
        exact un.free b o g (hide_in z) (by simp)
      refine ⟨v, back (inC F.cl) H H1, os, bare, ⟨fun b o e n hb hx => ?_, fun b o e n hb hx => ?_, fun b o e n hx => ?_, un.there, fun b xs e => ?_, fun b o u e => ?_, fun b ps e => ?_⟩, fun a o e => ?_, rv, q1 h1n⟩
      · exact un.keep b o e (by rw [hide_out (out b n)]; exact n) hb hx
      · exact un.slot b o e (by rw [hide_out (out b n)]; exact n) hb hx
      · rw [back_out (out b n)]
        exact un.free b o e (by rw [hide_out (out b n)]; exact n) hx
      · have z := outx b _ e (by intro o y; cases y)
        rw [back_out z]
        exact un.tups b xs (by rw [hide_out z]; exact e)
      · have z := outx b _ e (by intro o y; cases y)
        rw [back_out z]
        exact un.frzs b o u (by rw [hide_out z]; exact e)
      · have z := outx b _ e (by intro o y; cases y)
        rw [back_out z]
        exact un.tbls b ps (by rw [hide_out z]; exact e)
      · by_cases z : inC F.cl a
        · rw [back_in z] at e
          obtain ⟨o', v', y, g, _⟩ := cellD a z
          rw [y] at e
          cases e
          refine cellO_ok (un.keep a o' g (hide_in z) (fun hb => ?_) (by simp))
          have := e0.frf a hb
          rw [y] at this
          cases this
        · rw [back_out z] at e
          refine (hok a o e).stay (fun _ _ _ q => q) (fun b q => ?_) fun b xs q => ?_
          · rw [back_out (fun y => by rw [h1n b y] at q; cases q)]
            exact q
          · rw [back_out (fun y => by rw [h1n b y] at q; cases q)]
            exact q
end
open Classical in
/-- the cells laid open: each by the object that stands there -/
noncomputable def lay (S : Addr → Prop) (h : Heap) (H : Hp) : Hp := fun b => if S b then (h.get? b).map (CellO b) else H b
theorem lay_out {S : Addr → Prop} {h : Heap} {H : Hp} {b : Addr} (z : ¬ S b) : lay S h H b = H b := by unfold lay; rw [if_neg z]
theorem lay_in {S : Addr → Prop} {h : Heap} {H : Hp} {b : Addr} {o : Obj} (z : S b) (g : h.get? b = some o) : lay S h H b = some (CellO b o) := by unfold lay; rw [if_pos z, g]; rfl
section
variable {P : Program} {w : World} {K : PySem.W.Frag} {mg : Str → Option Value} {base : Heap} {k : Nat} {f : Addr} {fd : FuncData} {cl : List (Str × Addr)} {ps fr : List Str} {sp : Sp} {A : Around} {outer : List Env} {s : Shared} {H : Hp} {args : Args} {us : List Value} {vs : List V} {ws : List (Option V)} {Q : VK} {E : XK}
/-- a def called with the caller's cells tracked -/
theorem run_track (F : FnOk P w K mg base CX0 k f fd ps sp) (hr : Room k A) (e0 : Env0 P w K mg base A outer s H) (hb : BindsTo s fd args (ps.zip us)) (r : Vals vs us) (C : CellsAt cl fr ws s.heap H) (old : ∀ b, inC cl b → base.get? b = none ∧ b ∉ frs outer)
    (q : ∀ H2 : Hp, (∀ b, ¬ inC cl b → H2 b = H b) → CellsT H2 cl fr ws → sp vs H2 (fun v H' => (∀ b, inC cl b → H' b = H2 b) ∧ Q v (hide (inC cl) H')) E) : codeAny (model P w) A (.call (.ref f) args) (CR CX0 outer P w H s Q E) s := by
  have cellD : ∀ b, inC cl b → ∃ o v, H b = none ∧ s.heap.get? b = some o ∧ o.data = .cell v := fun b ⟨y, hy⟩ => by
    obtain ⟨n, v, o, g, d⟩ := C.all y b hy
    exact ⟨o, v, n, g, d⟩
  have CT : CellsT (lay (inC cl) s.heap H) cl fr ws := by
    refine ⟨C.len, C.inj, fun y c hy => ?_, fun i y hy => ?_⟩
    · obtain ⟨o, v, _, g, d⟩ := cellD c ⟨y, hy⟩
      exact ⟨o, v, lay_in ⟨y, hy⟩ g, d⟩
    · obtain ⟨c, hc, hv⟩ := C.has i y hy
      refine ⟨c, hc, fun v ev => ?_⟩
      obtain ⟨u, rv, o, g, d⟩ := hv v ev
      exact ⟨o, u, lay_in ⟨y, hc⟩ g, d, rv⟩
  have ext : ∀ b, inC cl b → ∃ o, lay (inC cl) s.heap H b = some (CellO b o) := fun b z => by
    obtain ⟨o, v, _, g, _⟩ := cellD b z
    exact ⟨o, lay_in z g⟩
  have hokL : HOk P w (lay (inC cl) s.heap H) s.heap := fun a o e => by
    by_cases z : inC cl a
    · obtain ⟨o', v, _, g, _⟩ := cellD a z
      rw [lay_in z g] at e
      cases e
      exact cellO_ok g
    · rw [lay_out z] at e
      refine (e0.hok a o e).stay (fun _ _ _ q => q) (fun b q => ?_) fun b xs q => ?_
      · rw [lay_out (fun y => by
          obtain ⟨_, _, n, _⟩ := cellD b y
          rw [n] at q
          cases q)]
        exact q
      · rw [lay_out (fun y => by
          obtain ⟨_, _, n, _⟩ := cellD b y
          rw [n] at q
          cases q)]
        exact q
  have e1 : Env0 P w K mg base A outer s (lay (inC cl) s.heap H) := ⟨e0.frames, e0.mod, fun b o hb' => ⟨(e0.bs b o hb').1, ?_⟩, e0.bsz, e0.funs, fun b hb' => ?_, hokL, e0.bare⟩
  · refine codeAny_mono (F.run A outer s (lay (inC cl) s.heap H) args us vs _ E hr e1 hb r (q _ (fun b z => lay_out z) CT)) fun res s' hq => ?_
    cases res with
    | error e => exact hq
    | ok fl =>
      cases fl with
      | next => exact hq
      | brk => exact hq
      | cont => exact hq
      | ret u =>
        obtain ⟨v, H1, os, bare, un, hok, rv, same, q1⟩ := hq
        have kept : ∀ b o, inC cl b → s.heap.get? b = some o → s'.heap.get? b = some o := fun b o z g => cellO_at hok ((same b z).trans (lay_in z g))
        have nin : ∀ b x, H b = some x → ¬ inC cl b := fun b x e z => by
          obtain ⟨_, _, n, _⟩ := cellD b z
          rw [n] at e
          cases e
        refine ⟨v, hide (inC cl) H1, os, bare, ⟨fun b o e n hb' hx => ?_, fun b o e n hb' hx => ?_, fun b o e n hx => ?_, un.there, fun b xs e => ?_, fun b o u e => ?_, fun b ps e => ?_⟩, hok_hide hok fun b z => ?_, rv, q1⟩
        · by_cases z : inC cl b
          · exact kept b o z e
          · exact un.keep b o e (by rw [lay_out z]; exact n) hb' hx
        · by_cases z : inC cl b
          · exact ⟨o.slots, kept b o z e⟩
          · exact un.slot b o e (by rw [lay_out z]; exact n) hb' hx
        · by_cases z : inC cl b
          · exact hide_in z
          · rw [hide_out z]
            exact un.free b o e (by rw [lay_out z]; exact n) hx
        · have z := nin b _ e
          rw [hide_out z]
          exact un.tups b xs (by rw [lay_out z]; exact e)
        · have z := nin b _ e
          rw [hide_out z]
          exact un.frzs b o u (by rw [lay_out z]; exact e)
        · have z := nin b _ e
          rw [hide_out z]
          exact un.tbls b ps (by rw [lay_out z]; exact e)
        · obtain ⟨o, y⟩ := ext b z
          exact ⟨o, (same b z).trans y⟩
  · have z : ¬ inC cl b := fun y => by
      rw [(old b y).1] at hb'
      cases hb'
    rw [lay_out z]
    exact (e0.bs b o hb').2
  · have z : ¬ inC cl b := fun y => (old b y).2 hb'
    rw [lay_out z]
    exact e0.frf b hb'
end
/-! ### the rules over them -/
/-- a function value, by what its call is worth -/
structure Callable (P : Program) (w : World) (K : PySem.W.Frag) (mg : Str → Option Value) (base : Heap) (k : Nat) (f : Addr) (sp : Sp) : Prop where
  run : ∀ (A : Around) (outer : List Env) (s : Shared) (H : Hp) (us : List Value) (vs : List V) (Q : VK) (E : XK), Room k A → Env0 P w K mg base A outer s H → Vals vs us → sp vs H Q E → codeAny (model P w) A (.call (.ref f) ⟨us, []⟩) (CR CX0 outer P w H s Q E) s
theorem Callable.of {P : Program} {w : World} {K : PySem.W.Frag} {mg : Str → Option Value} {base : Heap} {k : Nat} {f : Addr} {F : NF} {ps fr : List Str} {sp : List (Option V) → Sp} (Fn : NOk P w K mg base CX0 k f F ps fr sp) :
    Callable P w K mg base k f (fun vs H Q E => ∃ ws, H f = some (FnO f F) ∧ H F.c = some (CodeO F.c F.qual) ∧ CellsT H F.cl fr ws ∧ sp ws vs (hide (inC F.cl) H) (fun v H' => (∀ b, inC F.cl b → H' b = none) → Q v (back (inC F.cl) H H')) E) :=
  ⟨fun A outer s H us vs Q E hr e0 r q => by
    obtain ⟨ws, hf, hc, C, q⟩ := q
    exact run_cell Fn hr e0 hf hc C r q⟩
def tCallV (P : Program) (w : World) (K : PySem.W.Frag) (mg : Str → Option Value) (base : Heap) (k i : Nat) (t : TA) : TE := fun σ H Q => ∃ (f : Addr) (F : NF) (sp : Sp), σ[i]? = some (some (.ref f)) ∧ H f = some (FnO f F) ∧ Callable P w K mg base k f sp ∧ t σ H fun vs H1 => H1 f = some (FnO f F) ∧ sp vs H1 Q E0
section
variable {X : Cx} {e : Expr} {es : List Expr} {t : TA} {x : Str} {p pos : Pos} {i k : Nat}
theorem pe_callV (P : Program) (w : World) (K : PySem.W.Frag) (mg : Str → Option Value) (base : Heap) (hP : X.prog = P) (hw : X.w = w) (hK : X.K = K) (hmg : X.mg = mg) (hba : X.base = base) (room : Room k X.A) (hN : X.N[i]? = some x) (vis : Vis X.env.scope x) (args : PA X (e :: es) t) (nd : (x == ("__debug__" : Str)) = false := by decide)
    (nc : (x == ("__classdict__" : Str)) = false := by decide) (st : starEach (e :: es) X.env = (false, eval e X.env) :: starEach es X.env := by rfl) (pl : (backTo pos (starEach es X.env)).any (·.1) = false := by rfl) : PE X (.Call (.Name x p) (e :: es) [] pos) (tCallV P w K mg base k i t) := by
  subst hP hw hK hmg hba
  refine ⟨fun pins s σ H Q I h => ?_⟩
  obtain ⟨f, F, sp, hs, hf, ca, ht⟩ := h
  refine wpAny_Call_Name_kw (thn ((pe_var (pos := p) hN vis nd nc).run pins s σ H (fun v H1 => v = .ref f ∧ H1 = H) I ⟨.ref f, hs, rfl, rfl⟩) fun u s1 z => ?_)
  obtain ⟨v, H1, I1, r1, ev, eH⟩ := z
  subst ev
  rw [eH] at I1
  obtain rfl : u = Value.ref f := r1
  refine PySem.W.callWith_F (first := []) (fnAt_of I1 hf) (thn (args.run pos pins s1 σ H _ I1 ht) fun us s2 z => ?_) st pl
  obtain ⟨vs, H2, I2, r, h1, q⟩ := z
  refine ⟨fnAt_of I2 h1, ?_⟩
  show wpAny _ _ (call (.ref f) us) _ _ _
  refine wpAny_call (codeAny_mono (ca.run X.A X.stack s2 H2 us vs Q E0 room I2.env0 r q) fun res s' z => ?_)
  cases res with
  | error er => exact z.elim
  | ok fl =>
    cases fl with
    | ret u => exact I2.after z
    | next => exact z.elim
    | brk => exact z.elim
    | cont => exact z.elim
def tCallTr (OK : Prop) (cl : List (Str × Addr)) (fr : List Str) (js : List Nat) (n : Nat) (sp : Sp) (t : TA) : TE := fun σ H Q => t σ H fun vs H1 => vs.length = n ∧ (OK → ∀ H2 : Hp, (∀ b, ¬ inC cl b → H2 b = H1 b) → (∀ b, inC cl b → H1 b = none) → CellsT H2 cl fr (js.map (slotAt σ)) → sp vs H2 (fun v H' => (∀ b, inC cl b → H' b = H2 b) ∧ Q v (hide (inC cl) H')) E0)
theorem pe_callTr {f : Addr} {fd : FuncData} {ps fr : List Str} {js : List Nat} {sp : Sp} (G : FnOk X.prog X.w X.K X.mg X.base CX0 k f fd ps sp) (room : Room k X.A) (hg : Gl X x) (hm : X.mg x = some (.ref f)) (kp : PySem.W.keepIn X.K (.ref f) = true) (bi : Binds X.K fd ps []) (cp : X.Ok → Caps X X.env.cells fr js) (allfn : ∀ y, X.fn y = true) (args : PA X (e :: es) t)
    (nd : (x == ("__debug__" : Str)) = false := by decide) (st : starEach (e :: es) X.env = (false, eval e X.env) :: starEach es X.env := by rfl) (pl : (backTo pos (starEach es X.env)).any (·.1) = false := by rfl) : PE X (.Call (.Name x p) (e :: es) [] pos) (tCallTr X.Ok X.env.cells fr js ps.length sp t) := by
  refine ⟨fun pins s σ H Q I h => ?_⟩
  refine wpAny_Call_Name_kw (ld_glob I hg hm ?_ nd)
  refine PySem.W.callWith_K (h₀ := X.base) I.ok.mod.kin kp (thn (args.run pos pins s σ H _ I h) fun us s1 z => ?_) st pl
  obtain ⟨vs, H1, I1, r, hl, q⟩ := z
  refine ⟨I1.kIn, ?_⟩
  have C := cells_of I1 (cp I1.ok)
  have young : ∀ b, inC X.env.cells b → X.s_0.heap.objs.size ≤ b := fun b z => by
    obtain ⟨y, hy⟩ := z
    exact I1.ok.cab y b (allfn y) hy
  have old : ∀ b, inC X.env.cells b → X.base.get? b = none ∧ b ∉ frs X.stack := fun b z => by
    have yb := young b z
    refine ⟨?_, fun hb => ?_⟩
    · cases g : X.base.get? b with
      | none => rfl
      | some o => exact absurd (Nat.lt_of_lt_of_le (Heap.lt_size (I1.ok.bs b o g).1) yb) (Nat.lt_irrefl _)
    · have nofs : b ∉ frs X.outer := fun hb => by
        obtain ⟨_, o, ho, _⟩ := I1.ok.funs.mem hb
        exact absurd (Nat.lt_of_lt_of_le (Heap.lt_size ho) yb) (Nat.lt_irrefl _)
      rcases I1.ok.stk with z' | ⟨z', z2⟩
      · rw [z'] at hb
        exact nofs hb
      · rw [z'] at hb
        unfold frs at hb
        rw [List.filterMap_cons, z2] at hb
        rcases List.mem_cons.mp hb with y | y
        · obtain ⟨yy, hy⟩ := z
          exact I1.cne yy b hy y
        · exact nofs y
  refine wpAny_call (codeAny_mono (run_track G room I1.env0 (bi s1 us I1.kIn (by rw [List.append_nil, ← r.length]; exact hl)) (by rw [List.append_nil]; exact r) C old fun H2 a b => q I1.ok H2 a (fun b z => ?_) b) fun res s' z => ?_)
  · obtain ⟨y, hy⟩ := z
    exact (C.all y b hy).1
  · cases res with
    | error er => exact z.elim
    | ok fl =>
      cases fl with
      | ret u => exact I1.after z
      | next => exact z.elim
      | brk => exact z.elim
      | cont => exact z.elim
end
/-! ### a def whose code object is known: it makes functions of its own -/
structure FunC (K : PySem.W.Frag) (x qual : Str) (st : Stmt) (f : Addr) (fd : FuncData) (c : Addr) : Prop where
  ex : ∃ (oc : Value) (od : Option Addr) (kV doc pm : Value) (an : Option Addr) (ct : Value) (osl : Array (Option Value)), fd = PySem.W.fnOf x qual (defArgs st) (defBody st) (defScope st) .none kV doc pm an (.ref c) ct ∧ K.lookup f = some ⟨oc, od, .func fd, osl⟩ ∧ PySem.W.codeIn K (.ref c) qual = true
theorem FunC.ok {P : Program} {w : World} {K : PySem.W.Frag} {mg : Str → Option Value} {base : Heap} {x qual : Str} {st : Stmt} {f c : Addr} {fd : FuncData} {N ps : List Str} {k : Nat} {sp : Sp} (F : FunC K x qual st f fd c) (S : FnScope N ps (defScope st)) (len : ∀ vs H Q E, sp vs H Q E → vs.length = ps.length)
    (body : ∀ (A : Around) (outer : List Env) (s : Shared) (H : Hp) (vs : List V) (Q : VK) (E : XK), Room k (A.deeper (envOfC qual (defScope st) s.heap.objs.size f (.ref c))) → sp vs H Q E → ∃ t, PSs (cxOf CX0 P w K mg base N qual (defScope st) f (.ref c) A outer s H E).nox (defBody st) t ∧ t { nx := fun _ H' => Q .non H', rt := Q } (start N vs) H) : FnOk P w K mg base CX0 (k + 1) f fd ps sp := by
  obtain ⟨oc, od, kV, doc, pm, an, ct, osl, rfl, lk, hcd⟩ := F.ex
  refine fn_of lk hcd S len fun A outer s H vs Q E hr hsp => ?_
  obtain ⟨t, h, q⟩ := body A outer s H vs Q E hr hsp
  exact ⟨t, h.nox, q⟩
def lineOf : Stmt → Nat
  | .FunctionDef _ _ _ _ _ _ _ _ _ p => p.line
  | _ => 0
end LH

namespace LH
open PySem PySem.Spec PyProof.Rows L2
/-! ### a partition of the states: groups by number, homes by state -/
structure Part (n : Nat) (gs : List (List Nat)) (hl : List Nat) : Prop where
  len : hl.length = n
  mem : ∀ (h : Nat) (g : List Nat), gs[h]? = some g → ∀ s : Nat, s ∈ g ↔ hl[s]? = some h
  lt : ∀ (s h : Nat), hl[s]? = some h → h < gs.length
  nd : ∀ g ∈ gs, g.Nodup
  ne : ∀ g ∈ gs, g ≠ []
structure Split (n : Nat) (gs gs' : List (List Nat)) (hl hl' : List Nat) (home : Nat) (hit : List Nat) : Prop where
  grow : gs.length ≤ gs'.length
  part : Part n gs' hl'
  map : ∃ B : Nat → Bool, (∀ s : Nat, hl'[s]? = if hl[s]? = some home ∧ B s = true then some gs.length else hl[s]?) ∧ ((∀ s : Nat, hl[s]? = some home → (B s = true ↔ s ∈ hit)) ∨ (∀ s : Nat, hl[s]? = some home → (B s = true ↔ s ∉ hit)))
def GrpAt (H : Hp) (gr : Addr) (as : List Addr) (gs : List (List Nat)) : Prop := H gr = some (.lst (vr as)) ∧ as.Nodup ∧ as.length = gs.length ∧ ∀ (i : Nat) (a : Addr) (g : List Nat), as[i]? = some a → gs[i]? = some g → H a = some (.dK (dk g))
theorem GrpAt.dict {H : Hp} {gr : Addr} {as : List Addr} {gs : List (List Nat)} (h : GrpAt H gr as gs) {a : Addr} (ha : a ∈ as) : ∃ g, H a = some (.dK (dk g)) := by
  obtain ⟨i, hi⟩ := List.mem_iff_getElem?.mp ha
  have hl : i < gs.length := by
    rw [← h.2.2.1]
    exact (List.getElem?_eq_some_iff.mp hi).1
  exact ⟨gs[i], h.2.2.2 i a _ hi (List.getElem?_eq_getElem hl)⟩
theorem GrpAt.not {H : Hp} {gr : Addr} {as : List Addr} {gs : List (List Nat)} (h : GrpAt H gr as gs) {a : Addr} {o : HO} (ha : H a = some o) (no : ∀ g, o ≠ .dK (dk g)) : a ∉ as := fun z => by
  obtain ⟨g, e⟩ := h.dict z
  rw [ha] at e
  exact no g (Option.some.inj e)
/-- the frame: what is not the groups', not the homes' -/
def OffG (gr ho : Addr) (as : List Addr) (H H' : Hp) : Prop := ∀ b o, b ≠ gr → b ≠ ho → b ∉ as → H b = some o → H' b = some o
theorem Part.many {n : Nat} {gs : List (List Nat)} {hl : List Nat} (p : Part n gs hl) : gs.length ≤ n := by
  have key : ∀ (k : Nat) (hk : k ≤ gs.length), ∃ xs : List Nat, xs.length = k ∧ xs.Nodup ∧ ∀ x ∈ xs, ∃ h, h < k ∧ hl[x]? = some h := by
    intro k
    induction k with
    | zero => exact fun _ => ⟨[], rfl, List.nodup_nil, fun _ h => nomatch h⟩
    | succ k ih =>
      intro hk
      obtain ⟨xs, l, nd, q⟩ := ih (by omega)
      have hg : gs[k]? = some gs[k] := List.getElem?_eq_getElem (by omega)
      cases eg : gs[k] with
      | nil => exact absurd eg (p.ne _ (List.getElem_mem _))
      | cons y r =>
        have hy : hl[y]? = some k := (p.mem k _ hg y).mp (by rw [eg]; exact List.mem_cons_self ..)
        refine ⟨y :: xs, by rw [List.length_cons, l], List.nodup_cons.mpr ⟨fun z => ?_, nd⟩, fun x hx => ?_⟩
        · obtain ⟨h, hlt, e⟩ := q y z
          rw [hy] at e
          cases e
          omega
        · rcases List.mem_cons.mp hx with rfl | hx
          · exact ⟨k, Nat.lt_succ_self k, hy⟩
          · obtain ⟨h, hlt, e⟩ := q x hx
            exact ⟨h, by omega, e⟩
  obtain ⟨xs, l, nd, q⟩ := key gs.length (Nat.le_refl _)
  have := len_le_of_sub (ys := List.range n) nd fun x hx => by
    obtain ⟨h, _, e⟩ := q x hx
    have := (List.getElem?_eq_some_iff.mp e).1
    rw [p.len] at this
    exact List.mem_range.mpr this
  rw [List.length_range] at this
  omega
/-- the states of mv get a number of their own -/
def rehome (hl mv : List Nat) (new : Nat) : List Nat := mv.foldl (fun l s => l.set s new) hl
theorem rehome_len (new : Nat) : ∀ (mv hl : List Nat), (rehome hl mv new).length = hl.length
  | [], _ => rfl
  | s :: r, hl => by
    show (rehome (hl.set s new) r new).length = _
    rw [rehome_len new r, List.length_set]
theorem rehome_get (new : Nat) : ∀ (mv hl : List Nat) (s : Nat), (∀ x ∈ mv, x < hl.length) → (rehome hl mv new)[s]? = if s ∈ mv then some new else hl[s]?
  | [], _, _, _ => by simp [rehome]
  | x :: r, hl, s, h => by
    have ih := rehome_get new r (hl.set x new) s fun y hy => by
      rw [List.length_set]
      exact h y (List.mem_cons_of_mem _ hy)
    show (rehome (hl.set x new) r new)[s]? = _
    rw [ih]
    have hx := h x (List.mem_cons_self ..)
    by_cases e : s ∈ r
    · rw [if_pos e, if_pos (List.mem_cons_of_mem _ e)]
    · rw [if_neg e]
      by_cases e2 : s = x
      · subst e2
        rw [if_pos (List.mem_cons_self ..), List.getElem?_set_self hx]
      · rw [if_neg (fun z => (List.mem_cons.mp z).elim e2 e), List.getElem?_set_ne (Ne.symm e2)]
theorem rehome_snoc (hl mv : List Nat) (s new : Nat) : rehome hl (mv ++ [s]) new = (rehome hl mv new).set s new := by
  unfold rehome
  rw [List.foldl_append]
  rfl
/-- a group is parted into rest (it keeps the number) and mv (a new one) -/
theorem part_split {n home : Nat} {gs : List (List Nat)} {hl g rest mv hit : List Nat} (p : Part n gs hl) (hg : gs[home]? = some g) (nr : rest.Nodup) (nm : mv.Nodup) (r0 : rest ≠ []) (m0 : mv ≠ [])
    (h : ((∀ s, s ∈ mv ↔ s ∈ g ∧ s ∈ hit) ∧ (∀ s, s ∈ rest ↔ s ∈ g ∧ s ∉ hit)) ∨ ((∀ s, s ∈ rest ↔ s ∈ g ∧ s ∈ hit) ∧ (∀ s, s ∈ mv ↔ s ∈ g ∧ s ∉ hit))) : Split n gs (gs.set home rest ++ [mv]) hl (rehome hl mv gs.length) home hit := by
  have hh : home < gs.length := (List.getElem?_eq_some_iff.mp hg).1
  have mg : ∀ s, s ∈ mv → s ∈ g := fun s hs => by
    rcases h with h | h
    · exact ((h.1 s).mp hs).1
    · exact ((h.2 s).mp hs).1
  have rg : ∀ s, s ∈ rest ↔ s ∈ g ∧ s ∉ mv := fun s => by
    rcases h with h | h
    · rw [h.2 s, h.1 s]
      exact ⟨fun ⟨a, b⟩ => ⟨a, fun c => b c.2⟩, fun ⟨a, b⟩ => ⟨a, fun c => b ⟨a, c⟩⟩⟩
    · rw [h.1 s, h.2 s]
      refine ⟨fun ⟨a, b⟩ => ⟨a, fun c => c.2 b⟩, fun ⟨a, b⟩ => ⟨a, ?_⟩⟩
      by_cases q : s ∈ hit
      · exact q
      · exact absurd ⟨a, q⟩ b
  have gm : ∀ s, s ∈ g ↔ hl[s]? = some home := p.mem home g hg
  have lt : ∀ x ∈ mv, x < hl.length := fun x hx => (List.getElem?_eq_some_iff.mp ((gm x).mp (mg x hx))).1
  have get := fun s => rehome_get gs.length mv hl s lt
  refine ⟨by rw [List.length_append, List.length_set]; omega, ⟨?_, fun k g' hk s => ?_, fun s k hs => ?_, fun g' hg' => ?_, fun g' hg' => ?_⟩, fun s => decide (s ∈ mv), fun s => ?_, ?_⟩
  · rw [rehome_len, p.len]
  · rw [get s]
    by_cases hk1 : k < gs.length
    · rw [List.getElem?_append_left (by rw [List.length_set]; exact hk1)] at hk
      by_cases hkh : k = home
      · subst hkh
        rw [List.getElem?_set_self hk1] at hk
        cases hk
        rw [rg s, gm s]
        by_cases e : s ∈ mv
        · rw [if_pos e]
          exact ⟨fun z => absurd e z.2, fun z => by
            have := Option.some.inj z
            omega⟩
        · rw [if_neg e]
          exact ⟨fun z => z.1, fun z => ⟨z, e⟩⟩
      · rw [List.getElem?_set_ne (Ne.symm hkh)] at hk
        rw [p.mem k g' hk s]
        by_cases e : s ∈ mv
        · rw [if_pos e]
          have := (gm s).mp (mg s e)
          rw [this]
          exact ⟨fun z => absurd (Option.some.inj z).symm hkh, fun z => by
            have := Option.some.inj z
            omega⟩
        · rw [if_neg e]
    · have ek : k = gs.length := by
        have := (List.getElem?_eq_some_iff.mp hk).1
        rw [List.length_append, List.length_set] at this
        have : k < gs.length + 1 := this
        omega
      subst ek
      rw [List.getElem?_append_right (by rw [List.length_set]; exact Nat.le_refl _), List.length_set, Nat.sub_self] at hk
      cases hk
      by_cases e : s ∈ mv
      · rw [if_pos e]
        exact ⟨fun _ => rfl, fun _ => e⟩
      · rw [if_neg e]
        exact ⟨fun z => absurd z e, fun z => absurd (p.lt s _ z) (Nat.lt_irrefl _)⟩
  · rw [get s] at hs
    rw [List.length_append, List.length_set]
    show k < gs.length + 1
    by_cases e : s ∈ mv
    · rw [if_pos e] at hs
      cases hs
      omega
    · rw [if_neg e] at hs
      have := p.lt s k hs
      omega
  · rcases List.mem_append.mp hg' with z | z
    · rcases List.mem_or_eq_of_mem_set z with y | y
      · exact p.nd _ y
      · rw [y]; exact nr
    · rw [List.mem_singleton.mp z]; exact nm
  · rcases List.mem_append.mp hg' with z | z
    · rcases List.mem_or_eq_of_mem_set z with y | y
      · exact p.ne _ y
      · rw [y]; exact r0
    · rw [List.mem_singleton.mp z]; exact m0
  · rw [get s]
    by_cases e : s ∈ mv
    · rw [if_pos e, if_pos ⟨(gm s).mp (mg s e), decide_eq_true e⟩]
    · rw [if_neg e, if_neg (fun z => e (of_decide_eq_true z.2))]
  · rcases h with h | h
    · exact .inl fun s hs => by
        rw [decide_eq_true_iff, h.1 s, gm s]
        exact ⟨fun z => z.2, fun z => ⟨hs, z⟩⟩
    · exact .inr fun s hs => by
        rw [decide_eq_true_iff, h.2 s, gm s]
        exact ⟨fun z => z.2, fun z => ⟨hs, z⟩⟩
theorem split_none {n home : Nat} {gs : List (List Nat)} {hl g hit : List Nat} (p : Part n gs hl) (hg : gs[home]? = some g) (h : ∀ s ∈ g, s ∈ hit) : Split n gs gs hl hl home hit :=
  ⟨Nat.le_refl _, p, fun _ => false, fun s => by rw [if_neg (fun z => Bool.false_ne_true z.2)], .inr fun s hs => ⟨fun z => absurd z Bool.false_ne_true, fun z => absurd (h s ((p.mem home g hg s).mpr hs)) z⟩⟩
end LH

namespace LH
open PySem PySem.Spec PyProof.Rows L2
theorem int_at {ns : List Nat} {i : Nat} {x : V} (h : (vi ns)[i]? = some x) : ∃ s, ns[i]? = some s ∧ x = .int (s : Int) := by
  rw [List.getElem?_map] at h
  cases e : ns[i]? with
  | none =>
    rw [e] at h
    cases h
  | some s =>
    rw [e] at h
    cases h
    exact ⟨s, rfl, rfl⟩
theorem take_snoc {α : Type} {xs : List α} {i : Nat} {x : α} (h : xs[i]? = some x) : xs.take (i + 1) = xs.take i ++ [x] := by
  rw [List.take_add_one, h]
  rfl
theorem notin_take {xs : List Nat} (nd : xs.Nodup) {i s : Nat} (h : xs[i]? = some s) : s ∉ xs.take i := fun z => by
  have hi := (List.getElem?_eq_some_iff.mp h).1
  obtain ⟨j, hj⟩ := List.mem_iff_getElem?.mp z
  have hji : j < i := by
    have := (List.getElem?_eq_some_iff.mp hj).1
    rw [List.length_take] at this
    omega
  rw [List.getElem?_take_of_lt hji] at hj
  have := nd_ix nd hj h
  omega
theorem filt_step {g hit : List Nat} {i s : Nat} (h : hit[i]? = some s) : (g.filter fun a => decide (a ∉ hit.take i)).filter (fun a => decide (a ≠ s)) = g.filter fun a => decide (a ∉ hit.take (i + 1)) := by
  rw [List.filter_filter]
  refine List.filter_congr fun a _ => ?_
  rw [take_snoc h, Bool.eq_iff_iff]
  simp [not_or, and_comm]
theorem ixN_nat {n i : Nat} (h : i < n) : ixN n (i : Int) = some i := by
  unfold ixN
  simp
  omega
theorem vi_set (ns : List Nat) (i x : Nat) : (vi ns).set i (.int (x : Int)) = vi (ns.set i x) := by
  show List.set (List.map _ ns) i _ = List.map _ (ns.set i x)
  rw [List.map_set]
theorem vr_set (as : List Addr) (i : Nat) (x : Addr) : (vr as).set i (.ref x) = vr (as.set i x) := by
  show List.set (List.map _ as) i _ = List.map _ (as.set i x)
  rw [List.map_set]
theorem nodup_set {as : List Addr} {i : Nat} {x : Addr} (nd : as.Nodup) (hx : x ∉ as) : (as.set i x).Nodup := by
  rw [List.nodup_iff_pairwise_ne] at *
  induction as generalizing i with
  | nil => simp
  | cons a r ih =>
    have h2 := List.pairwise_cons.mp nd
    cases i with
    | zero =>
      refine List.Pairwise.cons (fun b hb e => hx ?_) h2.2
      rw [e]
      exact List.mem_cons_of_mem _ hb
    | succ i =>
      refine List.Pairwise.cons (fun b hb e => ?_) (ih (i := i) h2.2 fun z => hx (List.mem_cons_of_mem _ z))
      rcases List.mem_or_eq_of_mem_set hb with y | y
      · exact h2.1 b y e
      · exact hx (by rw [← y, ← e]; exact List.mem_cons_self ..)
theorem two_mul_len (n : Nat) : (2 : Int) * (n : Int) = ((2 * n : Nat) : Int) := by omega
section
variable {P : Program} {w : World} {K : PySem.W.Frag} {mg : Str → Option Value} {base : Heap}
def sp_split_group : Sp := fun vs H Q _ => ∃ (gr ho ht : Addr) (home n : Nat) (as : List Addr) (gs : List (List Nat)) (hl hit : List Nat), vs = [.ref gr, .ref ho, .int (home : Int), .ref ht] ∧ GrpAt H gr as gs ∧ H ho = some (.lst (vi hl)) ∧ H ht = some (.lst (vi hit)) ∧ gr ≠ ho ∧ ht ≠ gr ∧ ht ≠ ho ∧
  Part n gs hl ∧ n ≤ 1000000 ∧ hit.Nodup ∧ hit ≠ [] ∧ (∀ s ∈ hit, hl[s]? = some home) ∧
  ∀ H' as' gs' hl', GrpAt H' gr as' gs' → H' ho = some (.lst (vi hl')) → Split n gs gs' hl hl' home hit → OffG gr ho as H H' → (∀ a ∈ as', a ∈ as ∨ H a = none) → Q .non H'
theorem ok_split_group (T : TX K mg) : FnOk P w K mg base CX0 1 T.a_split_group T.fd_split_group ["groups", "homes", "home", "hit"] sp_split_group := by
  refine T.F_split_group.ok sc_split_group (fun vs H Q E h => ?_) (fun cdv A outer s H vs Q E hr h => ?_)
  · obtain ⟨gr, ho, ht, home, n, as, gs, hl, hit, rfl, _⟩ := h
    rfl
  · obtain ⟨gr, ho, ht, home, n, as, gs, hl, hit, rfl, hG, hho, hht, ngh, ntg, nth, hP, hn, nd, h0, hsub, q⟩ := h
    refine ⟨_, (pss_cons (ps_set (i := 4) sc_split_group.nd rfl (Or.inl rfl) (pe_ix (ix_listK K rfl) (pv 0) (pv 2) (fun _ _ => rfl)))
      (pss_cons (ps_if (pt_cmpR op_eq (pe_callB (call_lenK K rfl) (by rfl) T.m_len (by decide +kernel) (pa_cons (pv 3) pa_nil)) (pe_callB call_lenD (by rfl) T.m_len (by decide +kernel) (pa_cons (pv 4) pa_nil)) (nomark _))
        (pss_one ps_retN)
        pss_nil)
      (C8.pss_cut (ps_if (pt_cmpR op_le (pe_op op_mul pe_int (pe_callB (call_lenK K rfl) (by rfl) T.m_len (by decide +kernel) (pa_cons (pv 3) pa_nil))) (pe_callB call_lenD (by rfl) T.m_len (by decide +kernel) (pa_cons (pv 4) pa_nil)) (nomark _))
        (pss_cons (ps_setDc (i := 5) (own := [("state", 6)]) (g := gName 6) (tt := tYes) (by rfl) sc_split_group.nd rfl rfl (sw_trueD rfl rfl rfl (by decide +kernel)) (pi_listK K rfl (pv 3)) (blkOk_by (own := [("state", 6)]) (N := N_split_group) (by kernel_rfl)) (fun _ _ _ _ _ => (pg_name (i := 6) sc_split_group.nd rfl (Or.inl rfl))) (fun _ _ _ _ _ => pts_nil) (fun _ _ _ _ _ => (pv 6)) (fun _ _ _ _ _ => pe_bl))
          (pss_one (ps_for PassesOwn.never rfl (pi_listK K rfl (pv 3)) (pg_name (i := 6) sc_split_group.nd rfl (Or.inl rfl))
            (pss_one (ps_ddel (pv 4) (pv 6))))))
        (pss_cons (ps_set (i := 7) sc_split_group.nd rfl (Or.inr rfl) (pe_dc (own := [("state", 6)]) (g := gName 6) (tt := tYes) (by rfl) sc_split_group.nd (pi_listK K rfl (pv 3)) (blkOk_by (own := [("state", 6)]) (N := N_split_group) (by kernel_rfl)) (fun _ _ _ _ _ => (pg_name (i := 6) sc_split_group.nd rfl (Or.inl rfl))) (fun _ _ _ _ _ => pts_nil) (fun _ _ _ _ _ => (pv 6)) (fun _ _ _ _ _ => pe_bl)))
          (pss_cons (ps_lock (ps_setDc (i := 5) (own := [("state", 6)]) (g := gName 6) (by rfl) sc_split_group.nd rfl rfl (sw_trueD rfl rfl rfl (by decide +kernel)) (pi_keys (pv 4)) (blkOk_by (own := [("state", 6)]) (N := N_split_group) (by kernel_rfl)) (fun _ _ _ _ _ => (pg_name (i := 6) sc_split_group.nd rfl (Or.inl rfl))) (fun _ _ _ _ _ => (pts_one (pt_cmp (pc_dnotin (hu_of hr) (pv 6) (pv 7))))) (fun _ _ _ _ _ => (pv 6)) (fun _ _ _ _ _ => pe_bl)))
          (pss_one (ps_asg (pv 7) (pg_sub (pv 0) (pv 2) set_list))))))
      (pss_cons (ps_lock (ps_for PassesOwn.never rfl (pi_keys (pv 5)) (pg_name (i := 6) sc_split_group.nd rfl (Or.inl rfl))
        (pss_one (ps_asg (pe_callB (call_lenK K rfl) (by rfl) T.m_len (by decide +kernel) (pa_cons (pv 0) pa_nil)) (pg_sub (pv 1) (pv 6) set_list)))))
      (pss_one (ps_expr (pe_bmK K rfl PySem.F.plainAttrs_list PySem.F.slot_list_append PySem.F.type_list_append mt_append (pv 0) (pa_cons (pv 5) pa_nil)))))))), ?_⟩
    obtain ⟨hgr, nda, hlen, hdk⟩ := id hG
    obtain ⟨s0, hs0⟩ : ∃ s0, s0 ∈ hit := List.exists_mem_of_ne_nil _ h0
    have hhome : home < gs.length := hP.lt s0 home (hsub s0 hs0)
    have hg : gs[home]? = some gs[home] := List.getElem?_eq_getElem hhome
    have haa : as[home]? = some as[home] := List.getElem?_eq_getElem (by omega)
    generalize gs[home] = g at hg
    generalize as[home] = a at haa
    have ha : H a = some (.dK (dk g)) := hdk home a g haa hg
    have ama : a ∈ as := List.mem_of_getElem? haa
    have gm : ∀ s, s ∈ g ↔ hl[s]? = some home := hP.mem home g hg
    have ndg : g.Nodup := hP.nd g (List.mem_of_getElem? hg)
    have hsg : ∀ s ∈ hit, s ∈ g := fun s hs => (gm s).mpr (hsub s hs)
    have lg : g.length ≤ n := by
      have := len_le_of_sub (ys := List.range n) ndg fun x hx => by
        have := (List.getElem?_eq_some_iff.mp ((gm x).mp hx)).1
        rw [hP.len] at this
        exact List.mem_range.mpr this
      rw [List.length_range] at this
      exact this
    have lh : hit.length ≤ g.length := len_le_of_sub nd hsg
    have nga : a ≠ gr := ne_of ha hgr (by intro z; cases z)
    have nha : a ≠ ho := ne_of ha hho (by intro z; cases z)
    have nta : a ≠ ht := ne_of ha hht (by intro z; cases z)
    have eva : (vr as)[home]? = some (.ref a) := by
      rw [List.getElem?_map, haa]
      rfl
    -- members
    refine ⟨.ref gr, rfl, .int (home : Int), rfl, gr, _, (home : Int), .ref a, rfl, rfl, .inl (.inl hgr), atI_nat eva, ?_⟩
    refine ⟨.ref ht, rfl, ht, _, rfl, .inl (.inl (.inl hht)), .ref a, rfl, a, _, rfl, ha, rfl, _, rfl, ite2 (fun e => ?_) (fun e => ?_)⟩
    · have e1 := V.int.inj (of_decide_eq_true e)
      rw [List.length_map, List.length_map] at e1
      exact q H as gs hl hG hho (split_none hP hg (all_of_len nd hsg (by omega))) (fun _ _ _ _ _ z => z) (fun a z => .inl z)
    · have hlt : hit.length < g.length := by
        have : ¬ hit.length = g.length := fun z => e (decide_eq_true (by rw [List.length_map, List.length_map, z]))
        omega
      obtain ⟨s1, hs1, hs1'⟩ : ∃ s1, s1 ∈ g ∧ s1 ∉ hit := by
        by_cases z : ∃ s1, s1 ∈ g ∧ s1 ∉ hit
        · exact z
        · have := len_le_of_sub ndg fun x hx => by
            by_cases y : x ∈ hit
            · exact y
            · exact absurd ⟨x, hx, y⟩ z
          omega
      refine ⟨fun σ' H' => ∃ dm as2 rest mv y4 y6 y7, σ' = [some (.ref gr), some (.ref ho), some (.int (home : Int)), some (.ref ht), y4, some (.ref dm), y6, y7] ∧ GrpAt H' gr as2 (gs.set home rest) ∧ H' ho = some (.lst (vi hl)) ∧ H' dm = some (.dK (dk mv)) ∧ H dm = none ∧ dm ∉ as2 ∧ OffG gr ho as H H' ∧ (∀ a ∈ as2, a ∈ as ∨ H a = none) ∧
          rest.Nodup ∧ mv.Nodup ∧ rest ≠ [] ∧ mv ≠ [] ∧ mv.length ≤ n ∧ (((∀ s, s ∈ mv ↔ s ∈ g ∧ s ∈ hit) ∧ (∀ s, s ∈ rest ↔ s ∈ g ∧ s ∉ hit)) ∨ ((∀ s, s ∈ rest ↔ s ∈ g ∧ s ∈ hit) ∧ (∀ s, s ∈ mv ↔ s ∈ g ∧ s ∉ hit))), ?_, fun σ' H' hM => ?_⟩
      · refine ⟨.ref ht, rfl, ht, _, rfl, .inl (.inl (.inl hht)), 2, _, rfl, rfl, .inl ⟨by decide, by decide⟩, .ref a, rfl, a, _, rfl, ha, _, _, rfl, rfl, _, rfl, ite2 (fun _ => ?_) (fun _ => ?_)⟩
        · -- moved = {state: True for state in hit}
          refine ⟨.ref ht, rfl, ht, rfl, ⟨_, .inl (.inl hht)⟩, fun D nD => ?_⟩
          refine dc_it (walk_list (K := K) (a := ht) (xs := vi hit)) (fun i H' => H' = upd H D (.dK (dk (hit.take i)))) rfl (fun i H' _ hW => ?_) (fun i x H1 H1' hi hW hY => ?_) (fun H1 hW => ?_)
          · rw [hW]
            exact .inl (.inl (same_new nD _ _ hht))
          · obtain ⟨rfl, hx⟩ := hY
            subst hW
            obtain ⟨s2, hs2, rfl⟩ := int_at hx
            refine ⟨rfl, lcyes ?_⟩
            refine ⟨.int (s2 : Int), rfl, _, Sum.inl (s2 : Int), rfl, upd_same, ?_, ?_⟩
            · rw [List.length_map, List.length_take]
              exact Nat.lt_of_le_of_lt (show min i hit.length ≤ 1000000 by omega) (by decide)
            · rw [upd_upd, putK_dk (notin_take nd hs2), ← take_snoc hs2]
          · subst hW
            have et : hit.take (vi hit).length = hit := List.take_of_length_le (by rw [List.length_map]; exact Nat.le_refl _)
            rw [et]
            have da : a ≠ D := ne_of_none ha nD
            have dt : ht ≠ D := ne_of_none hht nD
            -- for state in hit: del members[state]
            refine ⟨.ref ht, rfl, ht, rfl, ⟨_, .inl (.inl (same_new nD _ _ hht))⟩, ?_⟩
            refine for_it (walk_list (K := K) (a := ht) (xs := vi hit)) (fun i σ H' => (H' a = some (.dK (dk (g.filter fun s => decide (s ∉ hit.take i)))) ∧ ∀ b, b ≠ a → H' b = upd H D (.dK (dk hit)) b) ∧ ∃ y6 y7, σ = [some (.ref gr), some (.ref ho), some (.int (home : Int)), some (.ref ht), some (.ref a), some (.ref D), y6, y7]) ⟨⟨?_, fun _ _ => rfl⟩, none, none, rfl⟩ (fun i σ H' _ hW => ?_) (fun i x σ H1 H1' hi hW hY => ?_) (fun σ H1 hW => ?_)
            · rw [upd_ne da, ha]
              have : (g.filter fun s => decide (s ∉ hit.take 0)) = g := by
                rw [List.take_zero]
                exact List.filter_eq_self.mpr fun a _ => by simp
              rw [this]
            · have := hW.1.2 ht (Ne.symm nta)
              refine .inl (.inl ?_)
              rw [this, upd_ne dt]
              exact hht
            · obtain ⟨⟨w1, w2⟩, y6, y7, rfl⟩ := hW
              obtain ⟨rfl, hx⟩ := hY
              obtain ⟨s2, hs2, rfl⟩ := int_at hx
              have hm2 := List.mem_of_getElem? hs2
              refine ⟨.ref a, rfl, .int (s2 : Int), rfl, a, _, Sum.inl (s2 : Int), rfl, w1, rfl, ?_, ⟨?_, ?_⟩, some (.int (s2 : Int)), y7, rfl⟩
              · rw [valV_dk, if_pos]
                · rfl
                · exact List.mem_filter.mpr ⟨hsg _ hm2, decide_eq_true (notin_take nd hs2)⟩
              · rw [upd_same, dropK_dk, filt_step hs2]
              · intro b hb
                rw [upd_ne hb]
                exact w2 b hb
            · obtain ⟨⟨w1, w2⟩, y6, y7, rfl⟩ := hW
              rw [et] at w1
              have nDas : D ∉ as := fun z => by
                obtain ⟨g', e'⟩ := hG.dict z
                rw [nD] at e'
                cases e'
              have w2' : ∀ b, b ≠ a → ∀ o, H b = some o → H1 b = some o := fun b hb o e => by
                rw [w2 b hb]
                exact same_new nD _ _ e
              refine ⟨D, as, g.filter fun s => decide (s ∉ hit), hit, _, y6, y7, rfl, ⟨w2' _ (Ne.symm nga) _ hgr, nda, by rw [List.length_set]; exact hlen, fun i b g' hb hg' => ?_⟩, w2' _ (Ne.symm nha) _ hho, ?_, nD, nDas, ?_, fun b hb => .inl hb, ndg.filter _, nd, ?_, h0, by omega, .inl ⟨fun s => ⟨fun z => ⟨hsg s z, z⟩, fun z => z.2⟩, fun s => by rw [List.mem_filter, decide_eq_true_iff]⟩⟩
              · by_cases hih : i = home
                · subst hih
                  rw [List.getElem?_set_self hhome] at hg'
                  cases hg'
                  rw [haa] at hb
                  cases hb
                  exact w1
                · rw [List.getElem?_set_ne (Ne.symm hih)] at hg'
                  refine w2' b (fun z => hih ?_) _ (hdk i b g' hb hg')
                  subst z
                  exact nd_ix nda hb haa
              · rw [w2 D (Ne.symm da), upd_same]
              · intro b o _ _ hb e'
                exact w2' b (fun z => hb (z ▸ ama)) o e'
              · intro z
                have : s1 ∈ (g.filter fun s => decide (s ∉ hit)) := List.mem_filter.mpr ⟨hs1, decide_eq_true hs1'⟩
                rw [z] at this
                cases this
        · -- kept = {state: True for state in hit}
          have nas : ∀ b, H b = none → b ∉ as := fun b nb z => by
            obtain ⟨g', e'⟩ := hG.dict z
            rw [nb] at e'
            cases e'
          refine ⟨.ref ht, rfl, ht, rfl, ⟨_, .inl (.inl hht)⟩, fun D nD => ?_⟩
          refine dc_it (walk_list (K := K) (a := ht) (xs := vi hit)) (fun i H' => H' = upd H D (.dK (dk (hit.take i)))) rfl (fun i H' _ hW => ?_) (fun i x H1 H1' hi hW hY => ?_) (fun H1 hW => ?_)
          · rw [hW]
            exact .inl (.inl (same_new nD _ _ hht))
          · obtain ⟨rfl, hx⟩ := hY
            subst hW
            obtain ⟨s2, hs2, rfl⟩ := int_at hx
            refine ⟨rfl, lcyes ?_⟩
            refine ⟨.int (s2 : Int), rfl, _, Sum.inl (s2 : Int), rfl, upd_same, ?_, ?_⟩
            · rw [List.length_map, List.length_take]
              exact Nat.lt_of_le_of_lt (show min i hit.length ≤ 1000000 by omega) (by decide)
            · rw [upd_upd, putK_dk (notin_take nd hs2), ← take_snoc hs2]
          · subst hW
            have et : hit.take (vi hit).length = hit := List.take_of_length_le (by rw [List.length_map]; exact Nat.le_refl _)
            rw [et]
            have da : a ≠ D := ne_of_none ha nD
            have a1 : upd H D (.dK (dk hit)) a = some (.dK (dk g)) := same_new nD _ _ ha
            -- moved = {state: True for state in members if state not in kept}
            refine ⟨a, .dK (dk g), a1, trivial, fun od => ?_⟩
            refine ⟨.ref a, rfl, a, od, rfl, .inl ⟨dk g, upd_same, fun D2 nD2 => ?_⟩⟩
            have ad2 : a ≠ D2 := ne_of_none upd_same nD2
            have n2 : upd H D (.dK (dk hit)) D2 = none := by
              rw [upd_ne (Ne.symm ad2)] at nD2
              exact nD2
            have dd : D ≠ D2 := ne_of_none upd_same n2
            have n2' : H D2 = none := by
              rw [upd_ne (Ne.symm dd)] at n2
              exact n2
            refine dc_it walk_keys (fun i H' => H' = upd (upd (upd H D (.dK (dk hit))) a (.frz od (.dK (dk g)))) D2 (.dK (dk ((g.take i).filter fun s => decide (s ∉ hit))))) rfl (fun i H' _ hW => ?_) (fun i x H1 H1' hi hW hY => ?_) (fun H1 hW => ?_)
            · rw [hW, upd_ne ad2, upd_same]
            · obtain ⟨rfl, k, v, hkv, rfl⟩ := hY
              obtain ⟨s2, hs2, rfl, rfl⟩ := dk_get hkv
              subst hW
              have eD : upd (upd (upd H D (.dK (dk hit))) a (.frz od (.dK (dk g)))) D2 (.dK (dk ((g.take i).filter fun s => decide (s ∉ hit)))) D = some (.dK (dk hit)) := by
                rw [upd_ne dd, upd_ne (Ne.symm da), upd_same]
              refine ⟨rfl, .int (s2 : Int), rfl, .ref D, rfl, D, _, rfl, DGet.k (k := Sum.inl (s2 : Int)) eD, _, rfl, ?_⟩
              rw [valV_dk]
              by_cases hin : s2 ∈ hit
              · rw [if_pos hin]
                refine iteF ?_
                rw [take_snoc hs2, List.filter_append]
                have : ([s2].filter fun s => decide (s ∉ hit)) = [] := by simp [hin]
                rw [this, List.append_nil]
              · rw [if_neg hin]
                refine iteT ?_
                refine ⟨.int (s2 : Int), rfl, _, Sum.inl (s2 : Int), rfl, upd_same, ?_, ?_⟩
                · rw [List.length_map]
                  refine Nat.lt_of_le_of_lt (List.length_filter_le _ _) ?_
                  rw [List.length_take]
                  exact Nat.lt_of_le_of_lt (show min i g.length ≤ 1000000 by omega) (by decide)
                · rw [upd_upd, take_snoc hs2, List.filter_append]
                  have : ([s2].filter fun s => decide (s ∉ hit)) = [s2] := by simp [hin]
                  rw [this, putK_dk]
                  intro z
                  exact notin_take ndg hs2 (List.mem_filter.mp z).1
            · subst hW
              have etg : g.take (dk g).length = g := List.take_of_length_le (by rw [List.length_map]; exact Nat.le_refl _)
              rw [etg]
              refine ⟨by rw [upd_ne ad2, upd_same], ?_⟩
              -- groups[home] = kept
              have eb : ∀ b, b ≠ a → b ≠ D → b ≠ D2 → upd (upd (upd (upd H D (.dK (dk hit))) a (.frz od (.dK (dk g)))) D2 (.dK (dk (g.filter fun s => decide (s ∉ hit))))) a (.dK (dk g)) b = H b := fun b h1 h2 h3 => by
                rw [upd_ne h1, upd_ne h3, upd_ne h1, upd_ne h2]
              have gD : gr ≠ D := ne_of_none hgr nD
              have gD2 : gr ≠ D2 := ne_of_none hgr n2'
              refine ⟨.ref D, rfl, .ref gr, rfl, .int (home : Int), rfl, gr, vr as, (home : Int), home, rfl, rfl, ?_, ixN_nat ?_, ?_⟩
              · rw [eb gr (Ne.symm nga) gD gD2]
                exact hgr
              · rw [List.length_map]
                omega
              · rw [vr_set]
                have nDas := nas D nD
                have nD2as := nas D2 n2'
                have eb2 : ∀ b, b ≠ gr → b ≠ a → b ≠ D → b ≠ D2 → upd (upd (upd (upd (upd H D (.dK (dk hit))) a (.frz od (.dK (dk g)))) D2 (.dK (dk (g.filter fun s => decide (s ∉ hit))))) a (.dK (dk g))) gr (.lst (vr (as.set home D))) b = H b := fun b h0 h1 h2 h3 => by
                  rw [upd_ne h0]
                  exact eb b h1 h2 h3
                have ins : ∀ b, b ∈ as.set home D → b ∈ as ∨ b = D := fun b hb => List.mem_or_eq_of_mem_set hb
                refine ⟨D2, as.set home D, hit, g.filter fun s => decide (s ∉ hit), _, _, _, rfl, ⟨upd_same, nodup_set nda nDas, by rw [List.length_set, List.length_set]; exact hlen, fun i b g' hb hg' => ?_⟩, ?_, ?_, n2', ?_, ?_, ?_, nd, ndg.filter _, h0, ?_, ?_, .inr ⟨fun s => ⟨fun z => ⟨hsg s z, z⟩, fun z => z.2⟩, fun s => by rw [List.mem_filter, decide_eq_true_iff]⟩⟩
                · by_cases hih : i = home
                  · subst hih
                    rw [List.getElem?_set_self hhome] at hg'
                    rw [List.getElem?_set_self (by omega)] at hb
                    cases hg'
                    cases hb
                    rw [upd_ne (Ne.symm gD), upd_ne (Ne.symm da), upd_ne dd, upd_ne (Ne.symm da), upd_same]
                  · rw [List.getElem?_set_ne (Ne.symm hih)] at hg' hb
                    have e3 := hdk i b g' hb hg'
                    rw [eb2 b (ne_of e3 hgr (by intro z; cases z)) (fun z => hih (by subst z; exact nd_ix nda hb haa)) (ne_of_none e3 nD) (ne_of_none e3 n2')]
                    exact e3
                · rw [eb2 ho (Ne.symm ngh) (Ne.symm nha) (ne_of_none hho nD) (ne_of_none hho n2')]
                  exact hho
                · rw [upd_ne (Ne.symm gD2), upd_ne (Ne.symm ad2), upd_same]
                · intro z
                  rcases ins _ z with y | y
                  · exact nD2as y
                  · exact dd y.symm
                · intro b o h1 h2 h3 e3
                  rw [eb2 b h1 (fun z => h3 (z ▸ ama)) (ne_of_none e3 nD) (ne_of_none e3 n2')]
                  exact e3
                · intro b hb
                  rcases ins _ hb with y | y
                  · exact .inl y
                  · exact .inr (y ▸ nD)
                · intro z
                  have : s1 ∈ (g.filter fun s => decide (s ∉ hit)) := List.mem_filter.mpr ⟨hs1, decide_eq_true hs1'⟩
                  rw [z] at this
                  cases this
                · exact Nat.le_trans (List.length_filter_le _ _) lg
      · obtain ⟨dm, as2, rest, mv, y4, y6, y7, rfl, ⟨hgr2, nda2, hlen2, hdk2⟩, hho2, hdm, ndm, dmas, off2, ins2, nr, nm, r0, m0, lm, hmv⟩ := hM
        have sp := part_split hP hg nr nm r0 m0 hmv
        have mvg : ∀ s, s ∈ mv → s ∈ g := fun s hs => by
          rcases hmv with h | h
          · exact ((h.1 s).mp hs).1
          · exact ((h.2 s).mp hs).1
        have mvl : ∀ s, s ∈ mv → s < hl.length := fun s hs => (List.getElem?_eq_some_iff.mp ((gm s).mp (mvg s hs))).1
        have ndg1 : dm ≠ gr := ne_of hdm hgr2 (by intro z; cases z)
        have ndh1 : dm ≠ ho := ne_of hdm hho2 (by intro z; cases z)
        rw [List.length_set] at hlen2
        -- for state in moved: homes[state] = len(groups)
        refine ⟨dm, .dK (dk mv), hdm, trivial, fun od => ?_⟩
        refine ⟨.ref dm, rfl, dm, od, rfl, .inl ⟨dk mv, upd_same, ?_⟩⟩
        refine for_it walk_keys (fun i σ H1 => (H1 ho = some (.lst (vi (rehome hl (mv.take i) gs.length))) ∧ ∀ b, b ≠ ho → H1 b = upd H' dm (.frz od (.dK (dk mv))) b) ∧ ∃ y6, σ = [some (.ref gr), some (.ref ho), some (.int (home : Int)), some (.ref ht), y4, some (.ref dm), y6, y7]) ⟨⟨?_, fun _ _ => rfl⟩, y6, rfl⟩ (fun i σ H1 _ hW => ?_) (fun i x σ H1 H1' hi hW hY => ?_) (fun σ H1 hW => ?_)
        · rw [upd_ne (Ne.symm ndh1)]
          exact hho2
        · rw [hW.1.2 dm ndh1, upd_same]
        · obtain ⟨⟨w1, w2⟩, y6, rfl⟩ := hW
          obtain ⟨rfl, k, v, hkv, rfl⟩ := hY
          obtain ⟨s2, hs2, rfl, rfl⟩ := dk_get hkv
          have g1 : H1' gr = some (.lst (vr as2)) := by
            rw [w2 gr ngh, upd_ne (Ne.symm ndg1)]
            exact hgr2
          refine ⟨.ref gr, rfl, gr, _, rfl, .inl (.inl (.inl g1)), .ref ho, rfl, .int (s2 : Int), rfl, ho, _, (s2 : Int), s2, rfl, rfl, w1, ixN_nat ?_, ⟨?_, ?_⟩, some (.int (s2 : Int)), rfl⟩
          · rw [List.length_map, rehome_len]
            exact mvl _ (List.mem_of_getElem? hs2)
          · rw [upd_same, List.length_map, hlen2, vi_set, ← rehome_snoc, ← take_snoc hs2]
          · intro b hb
            rw [upd_ne hb]
            exact w2 b hb
        · obtain ⟨⟨w1, w2⟩, y6, rfl⟩ := hW
          have etm : mv.take (dk mv).length = mv := List.take_of_length_le (by rw [List.length_map]; exact Nat.le_refl _)
          rw [etm] at w1
          refine ⟨by rw [w2 dm ndh1, upd_same], ?_⟩
          have g1 : upd H1 dm (.dK (dk mv)) gr = some (.lst (vr as2)) := by
            rw [upd_ne (Ne.symm ndg1), w2 gr ngh, upd_ne (Ne.symm ndg1)]
            exact hgr2
          -- groups.append(moved)
          refine ⟨.ref gr, rfl, .inl ⟨rfl, _, .inl (.inl g1)⟩, .ref dm, rfl, gr, _, _, rfl, rfl, g1, ?_, ?_⟩
          · rw [List.length_map, hlen2]
            have := hP.many
            exact Nat.lt_of_le_of_lt (show gs.length ≤ 1000000 by omega) (by decide)
          · rw [vr_snoc]
            have eb : ∀ b, b ≠ gr → b ≠ dm → b ≠ ho → upd (upd H1 dm (.dK (dk mv))) gr (.lst (vr (as2 ++ [dm]))) b = H' b := fun b h1 h2 h3 => by
              rw [upd_ne h1, upd_ne h2, w2 b h3, upd_ne h2]
            refine q _ (as2 ++ [dm]) (gs.set home rest ++ [mv]) (rehome hl mv gs.length) ⟨upd_same, ?_, ?_, fun i b g' hb hg' => ?_⟩ ?_ sp ?_ ?_
            · refine List.nodup_append.mpr ⟨nda2, by simp, fun x hx y hy e' => ?_⟩
              rw [List.mem_singleton.mp hy] at e'
              exact dmas (e' ▸ hx)
            · rw [List.length_append, List.length_append, List.length_set, hlen2]
              rfl
            · by_cases hi2 : i < as2.length
              · rw [List.getElem?_append_left hi2] at hb
                rw [List.getElem?_append_left (by rw [List.length_set]; omega)] at hg'
                have e3 := hdk2 i b g' hb hg'
                rw [eb b (ne_of e3 hgr2 (by intro z; cases z)) (fun z => dmas (z ▸ List.mem_of_getElem? hb)) (ne_of e3 hho2 (by intro z; cases z))]
                exact e3
              · rw [List.getElem?_append_right (by omega)] at hb
                rw [List.getElem?_append_right (by rw [List.length_set]; omega), List.length_set] at hg'
                have e0 : i - as2.length = 0 := by
                  cases z : i - as2.length with
                  | zero => rfl
                  | succ k =>
                    rw [z] at hb
                    simp at hb
                have e1 : i - gs.length = 0 := by omega
                rw [e0] at hb
                rw [e1] at hg'
                cases hb
                cases hg'
                rw [upd_ne ndg1, upd_same]
            · rw [upd_ne (Ne.symm ngh), upd_ne (Ne.symm ndh1)]
              exact w1
            · intro b o h1 h2 h3 e3
              rw [eb b h1 (ne_of_none e3 ndm) h2]
              exact off2 b o h1 h2 h3 e3
            · intro b hb
              rcases List.mem_append.mp hb with y | y
              · exact ins2 b y
              · exact .inr ((List.mem_singleton.mp y) ▸ ndm)
end
end LH

namespace LH
open PySem PySem.Spec PyProof.Rows L2
/-! ### hits_of: states by their homes -/
abbrev Ent := Nat × Addr × List Nat
abbrev ek (es : List Ent) : List (Key × V) := es.map fun (e : Ent) => (Sum.inl (e.1 : Int), V.ref e.2.1)
theorem valV_ek (h : Nat) : ∀ es : List Ent, valV (ek es) (Sum.inl (h : Int) : Key) = (es.find? fun e => decide (e.1 = h)).map fun e => V.ref e.2.1
  | [] => rfl
  | e :: r => by
    show valV ((Sum.inl (e.1 : Int), V.ref e.2.1) :: ek r) (Sum.inl (h : Int) : Key) = _
    by_cases q : e.1 = h
    · subst q
      rw [valV_pos rfl, List.find?_cons]
      simp
    · rw [valV_neg (fun z => q (by have := Sum.inl.inj z; omega)), valV_ek h r, List.find?_cons]
      simp [q]
theorem putK_ek {es : List Ent} {h : Nat} {l : Addr} (hn : (es.find? fun e => decide (e.1 = h)) = none) : putK (ek es) (Sum.inl (h : Int) : Key) (.ref l) = ek (es ++ [(h, l, [])]) := by
  unfold putK
  rw [valV_any, valV_ek, hn, if_neg (by decide)]
  show _ = List.map _ (es ++ [(h, l, [])])
  rw [List.map_append]
  rfl
structure HitsOk (H : Hp) (es : List Ent) (hl pre : List Nat) : Prop where
  nd : (es.map (·.1)).Nodup
  na : (es.map (·.2.1)).Nodup
  at_ : ∀ e ∈ es, H e.2.1 = some (.lst (vi e.2.2))
  eq : ∀ e ∈ es, e.2.2 = pre.filter fun s => decide (hl[s]? = some e.1)
  ne : ∀ e ∈ es, e.2.2 ≠ []
  all : ∀ s ∈ pre, ∃ e ∈ es, hl[s]? = some e.1
/-- ahead of the append: the entry of h is there, perhaps empty -/
structure HitsMid (H : Hp) (es1 es2 : List Ent) (l : Addr) (h : Nat) (xs hl pre : List Nat) : Prop where
  nd : ((es1 ++ (h, l, xs) :: es2).map (·.1)).Nodup
  na : ((es1 ++ (h, l, xs) :: es2).map (·.2.1)).Nodup
  at_ : ∀ e ∈ es1 ++ (h, l, xs) :: es2, H e.2.1 = some (.lst (vi e.2.2))
  eq : ∀ e ∈ es1 ++ (h, l, xs) :: es2, e.2.2 = pre.filter fun s => decide (hl[s]? = some e.1)
  ne : ∀ e ∈ es1 ++ es2, e.2.2 ≠ []
  all : ∀ s ∈ pre, ∃ e ∈ es1 ++ (h, l, xs) :: es2, hl[s]? = some e.1
theorem HitsMid.step {H H' : Hp} {es1 es2 : List Ent} {l : Addr} {h s : Nat} {xs hl pre : List Nat} (m : HitsMid H es1 es2 l h xs hl pre) (hs : hl[s]? = some h) (h1 : H' l = some (.lst (vi (xs ++ [s])))) (h2 : ∀ b o, b ≠ l → H b = some o → H' b = some o) : HitsOk H' (es1 ++ (h, l, xs ++ [s]) :: es2) hl (pre ++ [s]) := by
  have keys : ∀ {ys : List Nat}, (es1 ++ (h, l, ys) :: es2).map (fun e : Ent => e.1) = (es1 ++ (h, l, xs) :: es2).map (fun e : Ent => e.1) := fun {ys} => by simp
  have adrs : ∀ {ys : List Nat}, (es1 ++ (h, l, ys) :: es2).map (fun e : Ent => e.2.1) = (es1 ++ (h, l, xs) :: es2).map (fun e : Ent => e.2.1) := fun {ys} => by simp
  have inm : ∀ e ∈ es1 ++ es2, e ∈ es1 ++ (h, l, xs) :: es2 := fun e he => by
    rcases List.mem_append.mp he with z | z
    · exact List.mem_append_left _ z
    · exact List.mem_append_right _ (List.mem_cons_of_mem _ z)
  have dif : ∀ e ∈ es1 ++ es2, e.1 ≠ h ∧ e.2.1 ≠ l := fun e he => by
    have n1 := m.nd
    have n2 := m.na
    rw [List.map_append, List.map_cons, List.nodup_append, List.nodup_cons] at n1 n2
    rcases List.mem_append.mp he with z | z
    · exact ⟨fun q => n1.2.2 _ (List.mem_map_of_mem z) _ (List.mem_cons_self ..) q, fun q => n2.2.2 _ (List.mem_map_of_mem z) _ (List.mem_cons_self ..) q⟩
    · exact ⟨fun q => n1.2.1.1 (List.mem_map.mpr ⟨e, z, q⟩), fun q => n2.2.1.1 (List.mem_map.mpr ⟨e, z, q⟩)⟩
  have cases_ : ∀ e ∈ es1 ++ (h, l, xs ++ [s]) :: es2, e = (h, l, xs ++ [s]) ∨ e ∈ es1 ++ es2 := fun e he => by
    rcases List.mem_append.mp he with z | z
    · exact .inr (List.mem_append_left _ z)
    · rcases List.mem_cons.mp z with y | y
      · exact .inl y
      · exact .inr (List.mem_append_right _ y)
  have self : (h, l, xs) ∈ es1 ++ (h, l, xs) :: es2 := List.mem_append_right _ (List.mem_cons_self ..)
  have self' : (h, l, xs ++ [s]) ∈ es1 ++ (h, l, xs ++ [s]) :: es2 := List.mem_append_right _ (List.mem_cons_self ..)
  refine ⟨by rw [keys]; exact m.nd, by rw [adrs]; exact m.na, fun e he => ?_, fun e he => ?_, fun e he => ?_, fun t ht => ?_⟩
  · rcases cases_ e he with rfl | z
    · exact h1
    · exact h2 _ _ (dif e z).2 (m.at_ e (inm e z))
  · rw [List.filter_append]
    rcases cases_ e he with rfl | z
    · have e1 := m.eq _ self
      have : ([s].filter fun s => decide (hl[s]? = some h)) = [s] := by simp [hs]
      show xs ++ [s] = _
      rw [this]
      congr 1
    · have : ([s].filter fun s => decide (hl[s]? = some e.1)) = [] := by
        simp [hs]
        exact fun q => (dif e z).1 q.symm
      rw [this, List.append_nil]
      exact m.eq e (inm e z)
  · rcases cases_ e he with rfl | z
    · show xs ++ [s] ≠ []
      simp
    · exact m.ne e z
  · rcases List.mem_append.mp ht with z | z
    · obtain ⟨e, he, q⟩ := m.all t z
      rcases List.mem_append.mp he with y | y
      · exact ⟨e, List.mem_append_left _ y, q⟩
      · rcases List.mem_cons.mp y with rfl | y
        · exact ⟨_, self', q⟩
        · exact ⟨e, List.mem_append_right _ (List.mem_cons_of_mem _ y), q⟩
    · rw [List.mem_singleton.mp z]
      exact ⟨_, self', hs⟩
def flat (ws : List (List Nat)) (tl : List Nat) : List Nat := (tl.map fun t => ws.getD t []).flatten
theorem flat_snoc (ws : List (List Nat)) (tl : List Nat) (t : Nat) : flat ws (tl ++ [t]) = flat ws tl ++ ws.getD t [] := by
  unfold flat
  rw [List.map_append, List.flatten_append]
  simp
def LolAt (H : Hp) (bk : Addr) (bs : List Addr) (ws : List (List Nat)) : Prop := H bk = some (.lst (vr bs)) ∧ bs.length = ws.length ∧ ∀ (i : Nat) (b : Addr) (w : List Nat), bs[i]? = some b → ws[i]? = some w → H b = some (.lst (vi w))
theorem LolAt.same {H H' : Hp} {bk : Addr} {bs : List Addr} {ws : List (List Nat)} (h : LolAt H bk bs ws) (e : Same H H') : LolAt H' bk bs ws := ⟨e _ _ h.1, h.2.1, fun i b w x y => e _ _ (h.2.2 i b w x y)⟩
theorem LolAt.get {H : Hp} {bk : Addr} {bs : List Addr} {ws : List (List Nat)} (h : LolAt H bk bs ws) {t : Nat} (ht : t < ws.length) : ∃ b, (vr bs)[t]? = some (.ref b) ∧ H b = some (.lst (vi (ws.getD t []))) := by
  have hb : t < bs.length := by
    rw [h.2.1]
    exact ht
  refine ⟨bs[t], ?_, ?_⟩
  · rw [List.getElem?_map, List.getElem?_eq_getElem hb]
    rfl
  · refine h.2.2 t _ _ (List.getElem?_eq_getElem hb) ?_
    rw [List.getD_eq_getElem?_getD, List.getElem?_eq_getElem ht]
    rfl
theorem flat_take {ws : List (List Nat)} {tl : List Nat} {i t : Nat} (h : tl[i]? = some t) : ∃ post, flat ws tl = flat ws (tl.take i) ++ (ws.getD t [] ++ post) := by
  refine ⟨flat ws (tl.drop (i + 1)), ?_⟩
  have hi := (List.getElem?_eq_some_iff.mp h).1
  have e : tl = tl.take i ++ t :: tl.drop (i + 1) := by
    conv => lhs; rw [← List.take_append_drop i tl, List.drop_eq_getElem_cons hi]
    congr 2
    exact (List.getElem?_eq_some_iff.mp h).2
  conv => lhs; rw [e]
  unfold flat
  rw [List.map_append, List.flatten_append, List.map_cons, List.flatten_cons]
section
variable {P : Program} {w : World} {K : PySem.W.Frag} {mg : Str → Option Value} {base : Heap}
def sp_hits_of : Sp := fun vs H Q _ => ∃ (bk tg ho : Addr) (bs : List Addr) (ws : List (List Nat)) (tl hl : List Nat), vs = [.ref bk, .ref tg, .ref ho] ∧ LolAt H bk bs ws ∧ H tg = some (.lst (vi tl)) ∧ H ho = some (.lst (vi hl)) ∧ (∀ t ∈ tl, t < ws.length) ∧ (∀ s ∈ flat ws tl, s < hl.length) ∧ (flat ws tl).length ≤ 1000000 ∧
  ∀ H' hd (es : List Ent), Same H H' → H hd = none → H' hd = some (.dK (ek es)) → HitsOk H' es hl (flat ws tl) → (∀ e ∈ es, H e.2.1 = none) → Q (.ref hd) H'
theorem len_ents {es : List Ent} {hl pre : List Nat} (nd : (es.map (·.1)).Nodup) (eq : ∀ e ∈ es, e.2.2 = pre.filter fun s => decide (hl[s]? = some e.1)) (ne : ∀ e ∈ es, e.2.2 ≠ []) : es.length ≤ pre.length := by
  -- each entry's home is the home of some state
  have key : (es.map fun e : Ent => e.1).length ≤ (pre.map fun s => hl.getD s 0).length := len_le_of_sub nd fun x hx => by
    obtain ⟨e, he, rfl⟩ := List.mem_map.mp hx
    have h1 := ne e he
    rw [eq e he] at h1
    obtain ⟨s, hs⟩ := List.exists_mem_of_ne_nil _ h1
    obtain ⟨hs1, hs2⟩ := List.mem_filter.mp hs
    refine List.mem_map.mpr ⟨s, hs1, ?_⟩
    rw [List.getD_eq_getElem?_getD, of_decide_eq_true hs2]
    rfl
  rw [List.length_map, List.length_map] at key
  exact key
theorem ok_hits_of (T : TX K mg) : FnOk P w K mg base CX0 1 T.a_hits_of T.fd_hits_of ["back", "targets", "homes"] sp_hits_of := by
  refine T.F_hits_of.ok sc_hits_of (fun vs H Q E h => ?_) (fun cdv A outer s H vs Q E hr h => ?_)
  · obtain ⟨bk, tg, ho, bs, ws, tl, hl, rfl, _⟩ := h
    rfl
  · obtain ⟨bk, tg, ho, bs, ws, tl, hl, rfl, hB, htg, hho, htl, hfl, hbd, q⟩ := h
    refine ⟨_, (pss_cons (ps_set (i := 3) sc_hits_of.nd rfl (Or.inl rfl) pe_dnewK)
      (pss_cons (ps_for PassesOwn.never rfl (pi_listK K rfl (pv 1)) (pg_name (i := 4) sc_hits_of.nd rfl (Or.inl rfl))
        (pss_one (ps_for PassesOwn.never rfl (pi_listK K rfl (pe_ix (ix_listK K rfl) (pv 0) (pv 4) (fun _ _ => rfl))) (pg_name (i := 5) sc_hits_of.nd rfl (Or.inl rfl))
            (pss_cons (ps_set (i := 6) sc_hits_of.nd rfl (Or.inl rfl) (pe_ix (ix_listK K rfl) (pv 2) (pv 5) (fun _ _ => rfl)))
              (C8.pss_cut (ps_if (pt_cmp (pc_dnotin (hu_of hr) (pv 6) (pv 3)))
                (pss_one (ps_dput (hu_of hr) (pv 3) (pv 6) (pe_lst pa_nil) rfl))
                pss_nil)
              (pss_one (ps_expr (pe_bmK K rfl PySem.F.plainAttrs_list PySem.F.slot_list_append PySem.F.type_list_append mt_append (pe_dget (hu_of hr) (pv 3) (pv 6) (fun _ _ => rfl)) (pa_cons (pv 5) pa_nil)))))))))
      (pss_one (ps_ret (pv 3))))), ?_⟩
    refine fun hd nhd => ?_
    refine ⟨.ref tg, rfl, tg, rfl, ⟨_, .inl (.inl (same_new nhd _ _ htg))⟩, ?_⟩
    refine for_it (walk_list (K := K) (a := tg) (xs := vi tl)) (fun i σ H' => (∃ es, Same H H' ∧ H' hd = some (.dK (ek es)) ∧ HitsOk H' es hl (flat ws (tl.take i)) ∧ ∀ e ∈ es, H e.2.1 = none) ∧ ∃ y4 y5 y6, σ = [some (.ref bk), some (.ref tg), some (.ref ho), some (.ref hd), y4, y5, y6]) ⟨⟨[], same_new nhd, upd_same, ⟨List.nodup_nil, List.nodup_nil, (fun _ h => nomatch h), (fun _ h => nomatch h), (fun _ h => nomatch h), (fun _ h => nomatch h)⟩, fun _ h => nomatch h⟩, none, none, none, rfl⟩ (fun i σ H' _ hW => ?_) (fun i x σ H1 H1' hi hW hY => ?_) (fun σ H1 hW => ?_)
    · obtain ⟨⟨es, sm, _⟩, _⟩ := hW
      exact .inl (.inl (sm _ _ htg))
    · obtain ⟨⟨es, sm, ed, ok, fr⟩, y4, y5, y6, rfl⟩ := hW
      obtain ⟨rfl, hx⟩ := hY
      obtain ⟨t, ht, rfl⟩ := int_at hx
      have htw := htl t (List.mem_of_getElem? ht)
      obtain ⟨post, ef⟩ := flat_take (ws := ws) ht
      obtain ⟨b, hb1, hb2⟩ := hB.get htw
      -- for state in back[target]
      refine ⟨.ref bk, rfl, .int (t : Int), rfl, bk, _, (t : Int), .ref b, rfl, rfl, .inl (.inl (sm _ _ hB.1)), atI_nat hb1, b, rfl, ⟨_, .inl (.inl (sm _ _ hb2))⟩, ?_⟩
      refine for_it (walk_list (K := K) (a := b) (xs := vi (ws.getD t []))) (fun j σ H' => (∃ es, Same H H' ∧ H' hd = some (.dK (ek es)) ∧ HitsOk H' es hl (flat ws (tl.take i) ++ (ws.getD t []).take j) ∧ ∀ e ∈ es, H e.2.1 = none) ∧ ∃ y5 y6, σ = [some (.ref bk), some (.ref tg), some (.ref ho), some (.ref hd), some (.int (t : Int)), y5, y6]) ⟨⟨es, sm, ed, by rw [List.take_zero, List.append_nil]; exact ok, fr⟩, y5, y6, rfl⟩ (fun j σ H' _ hW => ?_) (fun j x σ H2 H2' hj hW hY => ?_) (fun σ H2 hW => ?_)
      · obtain ⟨⟨es, sm, _⟩, _⟩ := hW
        exact .inl (.inl (sm _ _ hb2))
      · obtain ⟨⟨es, sm, ed, ok, fr⟩, y5, y6, rfl⟩ := hW
        obtain ⟨rfl, hx⟩ := hY
        obtain ⟨u, hu, rfl⟩ := int_at hx
        have huf : u ∈ flat ws tl := by
          rw [ef]
          exact List.mem_append_right _ (List.mem_append_left _ (List.mem_of_getElem? hu))
        have hul := hfl u huf
        have hh : hl[u]? = some hl[u] := List.getElem?_eq_getElem hul
        generalize hl[u] = h at hh
        have hv : (vi hl)[u]? = some (.int (h : Int)) := by
          rw [List.getElem?_map, hh]
          rfl
        have ll : es.length ≤ 1000000 := by
          have := len_ents ok.nd ok.eq ok.ne
          have hle : (flat ws (List.take i tl) ++ List.take j (ws.getD t [])).length ≤ (flat ws tl).length := by
            rw [ef, List.length_append, List.length_append, List.length_append, List.length_take]
            omega
          omega
        -- home = homes[state]
        refine ⟨.ref ho, rfl, .int (u : Int), rfl, ho, _, (u : Int), .int (h : Int), rfl, rfl, .inl (.inl (sm _ _ hho)), atI_nat hv, ?_⟩
        refine ⟨fun σ' H' => ∃ es1 es2 l xs, σ' = [some (.ref bk), some (.ref tg), some (.ref ho), some (.ref hd), some (.int (t : Int)), some (.int (u : Int)), some (.int (h : Int))] ∧ Same H H' ∧ H' hd = some (.dK (ek (es1 ++ (h, l, xs) :: es2))) ∧ HitsMid H' es1 es2 l h xs hl (flat ws (tl.take i) ++ (ws.getD t []).take j) ∧ (∀ e ∈ es1 ++ (h, l, xs) :: es2, H e.2.1 = none) ∧ xs.length ≤ 1000000, ?_, fun σ' H' hM => ?_⟩
        · refine ⟨.int (h : Int), rfl, .ref hd, rfl, hd, _, rfl, DGet.k (k := Sum.inl (h : Int)) ed, _, rfl, ?_⟩
          rw [valV_ek]
          cases ef2 : es.find? fun e => decide (e.1 = h) with
          | none =>
            refine iteT ?_
            refine ⟨by show 0 ≤ sizeLine; decide, fun l nl => ?_⟩
            have dl : hd ≠ l := ne_of_none ed nl
            have fl : H l = none := sm.free nl
            have hn := List.find?_eq_none.mp ef2
            refine ⟨.ref hd, rfl, .int (h : Int), rfl, hd, _, rfl, DPut.k (k := Sum.inl (h : Int)) (by rw [upd_ne dl]; exact ed) ?_, es, [], l, [], rfl, ?_, ?_, ⟨?_, ?_, fun e he => ?_, fun e he => ?_, fun e he => ?_, fun s0 hs0 => ?_⟩, fun e he => ?_, by show 0 ≤ 1000000; decide⟩
            · rw [List.length_map]
              exact Nat.lt_of_le_of_lt ll (by decide)
            · intro b o e
              rw [upd_ne (ne_of_none e nhd), upd_ne (ne_of_none e fl)]
              exact sm b o e
            · rw [upd_same, putK_ek ef2]
            · rw [List.map_append, List.nodup_append]
              refine ⟨ok.nd, by simp, fun x hx y hy e => ?_⟩
              obtain ⟨e1, he1, rfl⟩ := List.mem_map.mp hx
              have : y = h := by simpa using hy
              exact hn e1 he1 (decide_eq_true (e.trans this))
            · rw [List.map_append, List.nodup_append]
              refine ⟨ok.na, by simp, fun x hx y hy e => ?_⟩
              obtain ⟨e1, he1, rfl⟩ := List.mem_map.mp hx
              have : y = l := by simpa using hy
              exact ne_of_none (ok.at_ e1 he1) nl (e.trans this)
            · rcases List.mem_append.mp he with z | z
              · have e3 := ok.at_ e z
                rw [upd_ne (ne_of e3 ed (by intro z; cases z)), upd_ne (ne_of_none e3 nl)]
                exact e3
              · rw [List.mem_singleton.mp z]
                show upd _ hd _ l = _
                rw [upd_ne (Ne.symm dl), upd_same]
                rfl
            · rcases List.mem_append.mp he with z | z
              · exact ok.eq e z
              · rw [List.mem_singleton.mp z]
                refine (List.filter_eq_nil_iff.mpr fun s0 hs0 => ?_).symm
                intro hd0
                obtain ⟨e1, he1, q1⟩ := ok.all s0 hs0
                have : hl[s0]? = some h := of_decide_eq_true hd0
                rw [this] at q1
                exact hn e1 he1 (decide_eq_true (Option.some.inj q1).symm)
            · rw [List.append_nil] at he
              exact ok.ne e he
            · obtain ⟨e1, he1, q1⟩ := ok.all s0 hs0
              exact ⟨e1, List.mem_append_left _ he1, q1⟩
            · rcases List.mem_append.mp he with z | z
              · exact fr e z
              · rw [List.mem_singleton.mp z]
                exact fl
          | some e0 =>
            refine iteF ?_
            have he0 := List.mem_of_find?_eq_some ef2
            have hk1 := List.find?_some ef2
            have hk0 : e0.1 = h := of_decide_eq_true hk1
            obtain ⟨h0, l, xs⟩ := e0
            have hk0 : h0 = h := hk0
            subst hk0
            obtain ⟨es1, es2, rfl⟩ := List.append_of_mem he0
            refine ⟨es1, es2, l, xs, rfl, sm, ed, ⟨ok.nd, ok.na, ok.at_, ok.eq, fun e he => ok.ne e ?_, ok.all⟩, fr, ?_⟩
            · rcases List.mem_append.mp he with z | z
              · exact List.mem_append_left _ z
              · exact List.mem_append_right _ (List.mem_cons_of_mem _ z)
            · have := ok.eq _ he0
              have hx : xs = _ := this
              rw [hx]
              refine Nat.le_trans (List.length_filter_le _ _) ?_
              have hle : (flat ws (List.take i tl) ++ List.take j (ws.getD t [])).length ≤ (flat ws tl).length := by
                rw [ef, List.length_append, List.length_append, List.length_append, List.length_take]
                omega
              omega
        · obtain ⟨es1, es2, l, xs, rfl, sm, ed, mid, fr, lx⟩ := hM
          have self : (h, l, xs) ∈ es1 ++ (h, l, xs) :: es2 := List.mem_append_right _ (List.mem_cons_self ..)
          have hlx := mid.at_ _ self
          have fl := fr _ self
          have dl : hd ≠ l := ne_of ed hlx (by intro z; cases z)
          have vh : valV (ek (es1 ++ (h, l, xs) :: es2)) (Sum.inl (h : Int) : Key) = some (.ref l) := by
            rw [valV_ek, List.find?_append]
            have : (es1.find? fun e => decide (e.1 = h)) = none := List.find?_eq_none.mpr fun e he hd0 => by
              have n1 := mid.nd
              rw [List.map_append, List.map_cons, List.nodup_append] at n1
              exact n1.2.2 _ (List.mem_map_of_mem he) _ (List.mem_cons_self ..) (of_decide_eq_true hd0)
            rw [this, List.find?_cons]
            simp
          -- hits[home].append(state)
          refine ⟨.ref hd, rfl, .int (h : Int), rfl, hd, .ref l, rfl, ?_, .inl ⟨rfl, _, .inl (.inl hlx)⟩, .int (u : Int), rfl, l, _, _, rfl, rfl, hlx, ?_, ⟨es1 ++ (h, l, xs ++ [u]) :: es2, ?_, ?_, ?_, ?_⟩, _, _, rfl⟩
          · have := DGet.k (k := Sum.inl (h : Int)) ed
            rw [vh] at this
            exact this
          · rw [List.length_map]
            exact Nat.lt_of_le_of_lt lx (by decide)
          · intro b o e
            rw [upd_ne (ne_of_none e fl)]
            exact sm b o e
          · rw [upd_ne dl, ed]
            congr 2
            show List.map _ _ = List.map _ _
            simp
          · rw [take_snoc hu, ← List.append_assoc]
            refine mid.step hh ?_ fun b o n e => ?_
            · rw [upd_same, vi_snoc]
            · rw [upd_ne n]
              exact e
          · intro e he
            rcases List.mem_append.mp he with z | z
            · exact fr e (List.mem_append_left _ z)
            · rcases List.mem_cons.mp z with rfl | z
              · exact fl
              · exact fr e (List.mem_append_right _ (List.mem_cons_of_mem _ z))
      · obtain ⟨⟨es, sm, ed, ok, fr⟩, y5, y6, rfl⟩ := hW
        have et : (ws.getD t []).take (vi (ws.getD t [])).length = ws.getD t [] := List.take_of_length_le (by rw [List.length_map]; exact Nat.le_refl _)
        rw [et] at ok
        rw [take_snoc ht, flat_snoc]
        exact ⟨⟨es, sm, ed, ok, fr⟩, _, _, _, rfl⟩
    · obtain ⟨⟨es, sm, ed, ok, fr⟩, y4, y5, y6, rfl⟩ := hW
      have et : tl.take (vi tl).length = tl := List.take_of_length_le (by rw [List.length_map]; exact Nat.le_refl _)
      rw [et] at ok
      exact ⟨.ref hd, rfl, q H1 hd es sm nhd ed ok fr⟩
end
end LH

namespace LH
open PySem PySem.Spec PyProof.Rows L2
/-! ### ways_back: for each column, for each state, where it is come from -/
def dl (rows : List (List Nat)) (s c : Nat) : Nat := (rows.getD s []).getD c 0
structure BK (H : Hp) (bk : Addr) (cs : List Addr) (bss : List (List Addr)) (n : Nat) (F : Nat → Nat → List Nat) : Prop where
  top : H bk = some (.lst (vr cs))
  len : cs.length = bss.length
  col : ∀ (c : Nat) (a : Addr) (bs : List Addr), cs[c]? = some a → bss[c]? = some bs → H a = some (.lst (vr bs)) ∧ bs.length = n
  cell : ∀ (c t : Nat) (bs : List Addr) (b : Addr), bss[c]? = some bs → bs[t]? = some b → H b = some (.lst (vi (F c t)))
  nd : bss.flatten.Nodup
theorem BK.same {H H' : Hp} {bk : Addr} {cs : List Addr} {bss : List (List Addr)} {n : Nat} {F : Nat → Nat → List Nat} (h : BK H bk cs bss n F) (e : Same H H') : BK H' bk cs bss n F := ⟨e _ _ h.top, h.len, fun c a bs x y => ⟨e _ _ (h.col c a bs x y).1, (h.col c a bs x y).2⟩, fun c t bs b x y => e _ _ (h.cell c t bs b x y), h.nd⟩
theorem flat_ix {α : Type} : ∀ {bss : List (List α)} {c c' t t' : Nat} {bs bs' : List α} {b : α}, bss.flatten.Nodup → bss[c]? = some bs → bss[c']? = some bs' → bs[t]? = some b → bs'[t']? = some b → c = c' ∧ t = t'
  | [], _, _, _, _, _, _, _, _, h, _, _, _ => by simp at h
  | x :: r, 0, 0, t, t', bs, bs', b, nd, h1, h2, h3, h4 => by
    cases h1
    cases h2
    rw [List.flatten_cons, List.nodup_append] at nd
    exact ⟨rfl, nd_ix nd.1 h3 h4⟩
  | x :: r, 0, c' + 1, t, t', bs, bs', b, nd, h1, h2, h3, h4 => by
    cases h1
    rw [List.flatten_cons, List.nodup_append] at nd
    exact absurd rfl (nd.2.2 b (List.mem_of_getElem? h3) b (List.mem_flatten.mpr ⟨bs', List.mem_of_getElem? (by simpa using h2), List.mem_of_getElem? h4⟩))
  | x :: r, c + 1, 0, t, t', bs, bs', b, nd, h1, h2, h3, h4 => by
    cases h2
    rw [List.flatten_cons, List.nodup_append] at nd
    exact absurd rfl (nd.2.2 b (List.mem_of_getElem? h4) b (List.mem_flatten.mpr ⟨bs, List.mem_of_getElem? (by simpa using h1), List.mem_of_getElem? h3⟩))
  | x :: r, c + 1, c' + 1, t, t', bs, bs', b, nd, h1, h2, h3, h4 => by
    rw [List.flatten_cons, List.nodup_append] at nd
    have := flat_ix (bss := r) (c := c) (c' := c') nd.2.1 (by simpa using h1) (by simpa using h2) h3 h4
    exact ⟨by omega, this.2⟩
/-- one list grows -/
theorem BK.put {H : Hp} {bk : Addr} {cs : List Addr} {bss : List (List Addr)} {n c t x : Nat} {F : Nat → Nat → List Nat} {bs : List Addr} {b : Addr} (h : BK H bk cs bss n F) (hc : bss[c]? = some bs) (ht : bs[t]? = some b) (n1 : 1 ≤ n) (l1 : 1 ≤ cs.length) : BK (upd H b (.lst (vi (F c t ++ [x])))) bk cs bss n (fun c' t' => if c' = c ∧ t' = t then F c t ++ [x] else F c' t') := by
  have hb := h.cell c t bs b hc ht
  have nref : ∀ {as : List Addr} {ns : List Nat}, 1 ≤ as.length → HO.lst (vr as) ≠ HO.lst (vi ns) := fun {as ns} l e => by
    cases as with
    | nil => simp at l
    | cons a r =>
      cases ns with
      | nil => cases e
      | cons m q => cases e
  refine ⟨?_, h.len, fun c' a bs' x y => ?_, fun c' t' bs' b' x y => ?_, h.nd⟩
  · rw [upd_ne (ne_of h.top hb (nref l1))]
    exact h.top
  · obtain ⟨z1, z2⟩ := h.col c' a bs' x y
    refine ⟨?_, z2⟩
    rw [upd_ne (ne_of z1 hb (nref (by omega)))]
    exact z1
  · by_cases e : c' = c ∧ t' = t
    · obtain ⟨rfl, rfl⟩ := e
      rw [hc] at x
      cases x
      rw [ht] at y
      cases y
      rw [upd_same]
      show _ = some (HO.lst (vi (if c' = c' ∧ t' = t' then F c' t' ++ [_] else F c' t')))
      rw [if_pos ⟨rfl, rfl⟩]
    · show _ = some (HO.lst (vi (if c' = c ∧ t' = t then F c t ++ [_] else F c' t')))
      rw [if_neg e]
      have nb : b' ≠ b := fun z => by
        subst z
        exact e (flat_ix h.nd x hc y ht)
      rw [upd_ne nb]
      exact h.cell c' t' bs' b' x y
theorem BK.congr {H : Hp} {bk : Addr} {cs : List Addr} {bss : List (List Addr)} {n : Nat} {F G : Nat → Nat → List Nat} (h : BK H bk cs bss n F) (e : ∀ c t, c < cs.length → F c t = G c t) : BK H bk cs bss n G := ⟨h.top, h.len, h.col, fun c t bs b x y => by
  rw [← e c t (by rw [h.len]; exact (List.getElem?_eq_some_iff.mp x).1)]
  exact h.cell c t bs b x y, h.nd⟩
def bkF (rows : List (List Nat)) (s c t : Nat) : List Nat := (List.range s).filter fun s' => decide (dl rows s' c = t)
theorem bkF_succ (rows : List (List Nat)) (s c t : Nat) : bkF rows (s + 1) c t = if dl rows s c = t then bkF rows s c t ++ [s] else bkF rows s c t := by
  unfold bkF
  rw [List.range_succ, List.filter_append]
  by_cases e : dl rows s c = t
  · rw [if_pos e]
    simp [e]
  · rw [if_neg e]
    simp [e]
structure TabOk (n L : Nat) (rows : List (List Nat)) : Prop where
  num : rows.length = n
  one : 1 ≤ n
  big : n ≤ 1000000
  l1 : 1 ≤ L
  l5 : L ≤ 5
  row : ∀ r ∈ rows, r.length = L ∧ ∀ t ∈ r, t < n
theorem TabOk.at_ {n L : Nat} {rows : List (List Nat)} (k : TabOk n L rows) {s : Nat} (h : s < n) : ∃ r, rows[s]? = some r ∧ rows.getD s [] = r ∧ r.length = L ∧ ∀ t ∈ r, t < n := by
  have hs : s < rows.length := by
    rw [k.num]
    exact h
  refine ⟨rows[s], List.getElem?_eq_getElem hs, ?_, k.row _ (List.getElem_mem hs)⟩
  rw [List.getD_eq_getElem?_getD, List.getElem?_eq_getElem hs]
  rfl
theorem TabOk.dl_lt {n L : Nat} {rows : List (List Nat)} (k : TabOk n L rows) {s c : Nat} (h : s < n) (hc : c < L) : dl rows s c < n := by
  obtain ⟨r, _, e, l, t⟩ := k.at_ h
  unfold dl
  rw [e, List.getD_eq_getElem?_getD, List.getElem?_eq_getElem (by omega)]
  exact t _ (List.getElem_mem _)
section
variable {P : Program} {w : World} {K : PySem.W.Frag} {mg : Str → Option Value} {base : Heap}
def sp_ways_back : Sp := fun vs H Q _ => ∃ (tb : Addr) (ras : List Addr) (rows : List (List Nat)) (n L : Nat), vs = [.ref tb] ∧ LolAt H tb ras rows ∧ TabOk n L rows ∧
  ∀ H' bk cs bss, Same H H' → H bk = none → (∀ a ∈ cs, H a = none) → (∀ b ∈ bss.flatten, H b = none) → cs.length = L → BK H' bk cs bss n (bkF rows n) → Q (.ref bk) H'
theorem ok_ways_back (T : TX K mg) : FnOk P w K mg base CX0 1 T.a_ways_back T.fd_ways_back ["table"] sp_ways_back := by
  refine T.F_ways_back.ok sc_ways_back (fun vs H Q E h => ?_) (fun cdv A outer s H vs Q E hr h => ?_)
  · obtain ⟨tb, ras, rows, n, L, rfl, _⟩ := h
    rfl
  · obtain ⟨tb, ras, rows, n, L, rfl, hT, k, q⟩ := h
    refine ⟨_, (pss_cons (ps_setLc (i := 1) (own := [("target", 5)]) (g := gName 5) (tt := tYes) (by rfl) sc_ways_back.nd rfl rfl (sw_true rfl rfl rfl (by decide +kernel)) (pi_listK K rfl (pe_ix (ix_listK K rfl) (pv 0) pe_int (fun _ _ => rfl))) (blkOk_by (own := [("target", 5)]) (N := N_ways_back) (by kernel_rfl)) (fun _ _ _ _ _ => (pg_name (i := 5) sc_ways_back.nd rfl (Or.inl rfl))) (fun _ _ _ _ _ => pts_nil) (fun _ _ _ _ _ => (pe_lc (own := [("row", 3)]) (g := gName 3) (tt := tYes) (by rfl) sc_ways_back.nd (pi_listK K rfl (pv 0)) (blkOk_by (own := [("row", 3)]) (N := N_ways_back) (by kernel_rfl)) (fun _ _ _ _ _ => (pg_name (i := 3) sc_ways_back.nd rfl (Or.inl rfl))) (fun _ _ _ _ _ => pts_nil) (fun _ _ _ _ _ => (pe_lst pa_nil)))))
      (pss_cons (ps_for PassesOwn.never rfl (pi_enumK K rfl (by rfl) T.m_enumerate (pa_cons (pv 0) pa_nil)) (pg_tupK (n := 2) K rfl (by rfl) (pgs_cons (pg_name (i := 2) sc_ways_back.nd rfl (Or.inl rfl)) (pgs_cons (pg_name (i := 3) sc_ways_back.nd rfl (Or.inl rfl)) pgs_nil)))
        (pss_one (ps_for PassesOwn.never rfl (pi_enumK K rfl (by rfl) T.m_enumerate (pa_cons (pv 3) pa_nil)) (pg_tupK (n := 2) K rfl (by rfl) (pgs_cons (pg_name (i := 4) sc_ways_back.nd rfl (Or.inl rfl)) (pgs_cons (pg_name (i := 5) sc_ways_back.nd rfl (Or.inl rfl)) pgs_nil)))
            (pss_one (ps_expr (pe_bmK K rfl PySem.F.plainAttrs_list PySem.F.slot_list_append PySem.F.type_list_append mt_append (pe_ix (ix_listK K rfl) (pe_ix (ix_listK K rfl) (pv 1) (pv 4) (fun _ _ => rfl)) (pv 5) (fun _ _ => rfl)) (pa_cons (pv 2) pa_nil)))))))
      (pss_one (ps_ret (pv 1))))), ?_⟩
    obtain ⟨r0, er0, eg0, lr0, _⟩ := k.at_ (s := 0) k.one
    obtain ⟨b0, hb0, hr0⟩ := hT.get (t := 0) (by rw [k.num]; exact k.one)
    rw [eg0] at hr0
    have lT : ras.length = n := by
      rw [hT.2.1, k.num]
    -- backs
    refine ⟨.ref tb, rfl, tb, _, 0, .ref b0, rfl, rfl, .inl (.inl hT.1), atI_nat (j := 0) hb0, b0, rfl, ⟨_, .inl (.inl hr0)⟩, fun D nD => ?_⟩
    refine lc_it (walk_list (K := K) (a := b0) (xs := vi r0)) (fun i H' => ∃ cs bss, Same H H' ∧ cs.length = i ∧ (∀ a ∈ cs, H a = none) ∧ (∀ b ∈ bss.flatten, H b = none) ∧ BK H' D cs bss n (fun _ _ => [])) ⟨[], [], same_new nD, rfl, (fun _ h => nomatch h), (fun _ h => nomatch h), ⟨upd_same, rfl, fun c a bs x => by simp at x, fun c t bs b x => by simp at x, List.nodup_nil⟩⟩ (fun i H' _ hW => ?_) (fun i x H1 H1' hi hW hY => ?_) (fun H1 hW => ?_)
    · obtain ⟨cs, bss, sm, _⟩ := hW
      exact .inl (.inl (sm _ _ hr0))
    · obtain ⟨cs, bss, sm, lc, fc, fb, bk⟩ := hW
      obtain ⟨rfl, hx⟩ := hY
      obtain ⟨u, hu, rfl⟩ := int_at hx
      refine ⟨rfl, lcyes ?_⟩
      -- [[] for row in table]
      refine ⟨.ref tb, rfl, tb, rfl, ⟨_, .inl (.inl (sm _ _ hT.1))⟩, fun D2 n2 => ?_⟩
      have dd : D ≠ D2 := ne_of_none bk.top n2
      refine lc_it (walk_list (K := K) (a := tb) (xs := vr ras)) (fun j H' => ∃ bs, Same H1' H' ∧ H' D2 = some (.lst (vr bs)) ∧ bs.length = j ∧ bs.Nodup ∧ ∀ b ∈ bs, H1' b = none ∧ b ≠ D2 ∧ H' b = some (.lst [])) ⟨[], same_new n2, upd_same, rfl, List.nodup_nil, fun _ h => nomatch h⟩ (fun j H' _ hW => ?_) (fun j x H2 H2' hj hW hY => ?_) (fun H2 hW => ?_)
      · obtain ⟨bs, sm2, _⟩ := hW
        exact .inl (.inl (sm2 _ _ (sm _ _ hT.1)))
      · obtain ⟨bs, sm2, e2, l2, nd2, f2⟩ := hW
        obtain ⟨rfl, hx2⟩ := hY
        refine ⟨rfl, lcyes ?_⟩
        refine ⟨by show 0 ≤ sizeLine; decide, fun p np => ?_⟩
        have pd : D2 ≠ p := ne_of_none e2 np
        have fp : H1' p = none := sm2.free np
        have nin : p ∉ bs := fun z => by
          rw [(f2 p z).2.2] at np
          cases np
        refine ⟨vr bs, by rw [upd_ne pd]; exact e2, ?_, bs ++ [p], ?_, ?_, ?_, ?_, fun b hb => ?_⟩
        · rw [List.length_map, l2]
          rw [List.length_map] at hj
          have := k.big
          exact Nat.lt_of_le_of_lt (show j ≤ 1000000 by omega) (by decide)
        · intro b o e
          rw [upd_ne (ne_of_none e n2), upd_ne (ne_of_none e fp)]
          exact sm2 b o e
        · rw [upd_same, vr_snoc]
        · rw [List.length_append, l2]
          rfl
        · refine List.nodup_append.mpr ⟨nd2, by simp, fun x hx y hy e => ?_⟩
          rw [List.mem_singleton.mp hy] at e
          exact nin (e ▸ hx)
        · rcases List.mem_append.mp hb with z | z
          · obtain ⟨z1, z2, z3⟩ := f2 b z
            refine ⟨z1, z2, ?_⟩
            rw [upd_ne z2, upd_ne (ne_of_none z3 np)]
            exact z3
          · rw [List.mem_singleton.mp z]
            refine ⟨fp, Ne.symm pd, ?_⟩
            rw [upd_ne (Ne.symm pd), upd_same]
      · obtain ⟨bs, sm2, e2, l2, nd2, f2⟩ := hW
        have bk2 := bk.same sm2
        have hD : upd H2 D (.lst (vr (cs ++ [D2]))) D = some (.lst (vr (cs ++ [D2]))) := upd_same
        have fD2 : H D2 = none := sm.free n2
        refine ⟨vr cs, bk2.top, ?_, cs ++ [D2], bss ++ [bs], ?_, ?_, ?_, ?_, ?_⟩
        · rw [List.length_map, lc]
          rw [List.length_map] at hi
          have := k.l5
          exact Nat.lt_of_le_of_lt (show i ≤ 1000000 by omega) (by decide)
        · intro b o e
          rw [vr_snoc, upd_ne (ne_of_none e nD)]
          exact sm2 _ _ (sm b o e)
        · rw [List.length_append, lc]
          rfl
        · exact mem_snoc fc fD2
        · intro b hb
          rw [List.flatten_append] at hb
          rcases List.mem_append.mp hb with z | z
          · exact fb b z
          · have z : b ∈ bs := by simpa using z
            exact sm.free (f2 b z).1
        · rw [vr_snoc]
          refine ⟨upd_same, by rw [List.length_append, List.length_append, bk.len]; rfl, fun c a bs' x y => ?_, fun c t bs' b x y => ?_, ?_⟩
          · by_cases hc : c < cs.length
            · rw [List.getElem?_append_left hc] at x
              rw [List.getElem?_append_left (by rw [← bk.len]; exact hc)] at y
              obtain ⟨z1, z2⟩ := bk2.col c a bs' x y
              refine ⟨?_, z2⟩
              have : a ≠ D := fun z => by
                have := fc a (List.mem_of_getElem? x)
                have z3 := bk.top
                have z4 := (bk.col c a bs' x y).1
                subst z
                rw [z3] at z4
                have z5 : vr cs = vr bs' := HO.lst.inj (Option.some.inj z4)
                have := congrArg List.length z5
                rw [List.length_map, List.length_map, z2] at this
                -- the list of columns would be one of its own
                have hmem : V.ref a ∈ vr cs := List.mem_map_of_mem (List.mem_of_getElem? x)
                rw [z5] at hmem
                obtain ⟨b', hb', e'⟩ := List.mem_map.mp hmem
                cases e'
                have : a ∈ bss.flatten := List.mem_flatten.mpr ⟨bs', List.mem_of_getElem? y, hb'⟩
                obtain ⟨t', ht'⟩ := List.mem_iff_getElem?.mp hb'
                have z6 := bk.cell c t' bs' a y ht'
                rw [z3] at z6
                have z7 : vr cs = [] := HO.lst.inj (Option.some.inj z6)
                have z8 : cs = [] := List.map_eq_nil_iff.mp z7
                rw [z8] at x
                simp at x
              rw [upd_ne this]
              exact z1
            · rw [List.getElem?_append_right (by omega)] at x
              rw [List.getElem?_append_right (by rw [← bk.len]; omega), ← bk.len] at y
              have e0 : c - cs.length = 0 := by
                cases z : c - cs.length with
                | zero => rfl
                | succ m =>
                  rw [z] at x
                  simp at x
              rw [e0] at x y
              cases x
              cases y
              rw [upd_ne (Ne.symm dd)]
              rw [List.length_map] at l2
              exact ⟨e2, by omega⟩
          · by_cases hc : c < bss.length
            · rw [List.getElem?_append_left hc] at x
              have z1 := bk2.cell c t bs' b x y
              have z0 := bk.cell c t bs' b x y
              have : b ≠ D := fun z => by
                have := fb b (List.mem_flatten.mpr ⟨bs', List.mem_of_getElem? x, List.mem_of_getElem? y⟩)
                subst z
                have z3 := bk.top
                rw [z3] at z0
                have z7 : vr cs = [] := HO.lst.inj (Option.some.inj z0)
                have z8 : cs = [] := List.map_eq_nil_iff.mp z7
                have := bk.len
                rw [z8] at this
                simp at this
                omega
              rw [upd_ne this]
              exact z1
            · rw [List.getElem?_append_right (by omega)] at x
              have e0 : c - bss.length = 0 := by
                cases z : c - bss.length with
                | zero => rfl
                | succ m =>
                  rw [z] at x
                  simp at x
              rw [e0] at x
              cases x
              obtain ⟨z1, z2, z3⟩ := f2 b (List.mem_of_getElem? y)
              rw [upd_ne (Ne.symm (ne_of_none bk.top z1))]
              exact z3
          · rw [List.flatten_append, List.nodup_append]
            refine ⟨bk.nd, by simpa using nd2, fun x hx y hy e => ?_⟩
            have hy : y ∈ bs := by simpa using hy
            subst e
            obtain ⟨bs', hbs', hxb⟩ := List.mem_flatten.mp hx
            obtain ⟨c, hc⟩ := List.mem_iff_getElem?.mp hbs'
            obtain ⟨t, ht⟩ := List.mem_iff_getElem?.mp hxb
            have z0 := bk.cell c t bs' x hc ht
            rw [(f2 x hy).1] at z0
            cases z0
    · obtain ⟨cs, bss, sm, lc, fc, fb, bk⟩ := hW
      rw [List.length_map, lr0] at lc
      have bk := bk.congr (G := bkF rows 0) fun c t _ => rfl
      -- for state, row in enumerate(table)
      refine ⟨.ref tb, rfl, tb, _, rfl, .inl (.inl (sm _ _ hT.1)), ?_⟩
      refine for_it (walk_enum (K := K) (a := tb) (xs := vr ras)) (fun i σ H' => (Same H H' ∧ BK H' D cs bss n (bkF rows i)) ∧ ∃ y2 y3 y4 y5, σ = [some (.ref tb), some (.ref D), y2, y3, y4, y5]) ⟨⟨sm, bk⟩, none, none, none, none, rfl⟩ (fun i σ H' _ hW => .inl (.inl (hW.1.1 _ _ hT.1))) (fun i x σ H2 H2' hi hW hY => ?_) (fun σ H2 hW => ?_)
      · obtain ⟨⟨sm2, bk2⟩, y2, y3, y4, y5, rfl⟩ := hW
        obtain ⟨T1, v1, v2, rfl, nT1, rfl, e1, e2⟩ := hY
        cases e1
        rw [List.length_map] at hi
        have hin : i < n := by omega
        obtain ⟨r, er, eg, lr, lt⟩ := k.at_ hin
        obtain ⟨b, hb, hrow⟩ := hT.get (t := i) (by rw [k.num]; exact hin)
        rw [eg] at hrow
        have e2 := hb.symm.trans e2
        cases e2
        refine ⟨T1, [.int (i : Int), .ref b], rfl, .inl (.inl upd_same), rfl, .int (i : Int), [.ref b], rfl, .ref b, [], rfl, rfl, ?_⟩
        have sm3 : Same H (upd H2 T1 (.tup [.int (i : Int), .ref b])) := sm2.trans (same_new nT1)
        have bk3 := bk2.same (same_new (o := .tup [.int (i : Int), .ref b]) nT1)
        generalize upd H2 T1 (.tup [.int (i : Int), .ref b]) = H3 at sm3 bk3
        -- for column, target in enumerate(row)
        refine ⟨.ref b, rfl, b, _, rfl, .inl (.inl (sm3 _ _ hrow)), ?_⟩
        refine for_it (walk_enum (K := K) (a := b) (xs := vi r)) (fun j σ H' => (Same H H' ∧ BK H' D cs bss n (fun c t => if c < j then bkF rows (i + 1) c t else bkF rows i c t)) ∧ ∃ y4 y5, σ = [some (.ref tb), some (.ref D), some (.int (i : Int)), some (.ref b), y4, y5]) ⟨⟨sm3, bk3.congr fun c t _ => by rw [if_neg (Nat.not_lt_zero c)]⟩, y4, y5, rfl⟩ (fun j σ H' _ hW => .inl (.inl (hW.1.1 _ _ hrow))) (fun j x σ H4 H4' hj hW hY => ?_) (fun σ H4 hW => ?_)
        · obtain ⟨⟨sm4, bk4⟩, y4, y5, rfl⟩ := hW
          obtain ⟨T2, v1, v2, rfl, nT2, rfl, e1, e2⟩ := hY
          cases e1
          obtain ⟨u, hu, rfl⟩ := int_at e2
          rw [List.length_map] at hj
          have hun : u < n := lt u (List.mem_of_getElem? hu)
          have edl : dl rows i j = u := by
            unfold dl
            rw [eg, List.getD_eq_getElem?_getD, hu]
            rfl
          refine ⟨T2, [.int (j : Int), .int (u : Int)], rfl, .inl (.inl upd_same), rfl, .int (j : Int), [.int (u : Int)], rfl, .int (u : Int), [], rfl, rfl, ?_⟩
          have sm5 : Same H (upd H4 T2 (.tup [.int (j : Int), .int (u : Int)])) := sm4.trans (same_new nT2)
          have bk5 := bk4.same (same_new (o := .tup [.int (j : Int), .int (u : Int)]) nT2)
          generalize upd H4 T2 (.tup [.int (j : Int), .int (u : Int)]) = H5 at sm5 bk5
          have hjc : j < cs.length := by omega
          have hjb : j < bss.length := by
            rw [← bk5.len]
            exact hjc
          obtain ⟨c1, c2⟩ := bk5.col j _ _ (List.getElem?_eq_getElem hjc) (List.getElem?_eq_getElem hjb)
          have hub : u < bss[j].length := by omega
          have c3 := bk5.cell j u _ _ (List.getElem?_eq_getElem hjb) (List.getElem?_eq_getElem hub)
          have fbu : H bss[j][u] = none := fb _ (List.mem_flatten.mpr ⟨_, List.getElem_mem hjb, List.getElem_mem hub⟩)
          have v1 : (vr cs)[j]? = some (.ref cs[j]) := by
            rw [List.getElem?_map, List.getElem?_eq_getElem hjc]
            rfl
          have v2 : (vr bss[j])[u]? = some (.ref bss[j][u]) := by
            rw [List.getElem?_map, List.getElem?_eq_getElem hub]
            rfl
          -- backs[column][target].append(state)
          refine ⟨.ref D, rfl, .int (j : Int), rfl, D, _, (j : Int), .ref cs[j], rfl, rfl, .inl (.inl bk5.top), atI_nat v1, .int (u : Int), rfl, cs[j], _, (u : Int), .ref bss[j][u], rfl, rfl, .inl (.inl c1), atI_nat v2, .inl ⟨rfl, _, .inl (.inl c3)⟩, .int (i : Int), rfl, bss[j][u], _, _, rfl, rfl, c3, ?_, ⟨?_, ?_⟩, _, _, rfl⟩
          · rw [List.length_map]
            have : (if j < j then bkF rows (i + 1) j u else bkF rows i j u).length ≤ i := by
              rw [if_neg (Nat.lt_irrefl j)]
              unfold bkF
              refine Nat.le_trans (List.length_filter_le _ _) ?_
              rw [List.length_range]
              exact Nat.le_refl _
            have := k.big
            exact Nat.lt_of_le_of_lt (show _ ≤ 1000000 by omega) (by decide)
          · intro b' o e
            rw [upd_ne (ne_of_none e fbu)]
            exact sm5 _ _ e
          · have := bk5.put (x := i) (List.getElem?_eq_getElem hjb) (List.getElem?_eq_getElem hub) k.one (by omega)
            rw [vi_snoc]
            refine this.congr fun c t _ => ?_
            by_cases e : c = j ∧ t = u
            · obtain ⟨rfl, rfl⟩ := e
              rw [if_pos ⟨rfl, rfl⟩, if_neg (Nat.lt_irrefl c), if_pos (Nat.lt_succ_self c), bkF_succ, if_pos edl]
            · rw [if_neg e]
              by_cases hc : c < j
              · rw [if_pos hc, if_pos (by omega)]
              · rw [if_neg hc]
                by_cases hcj : c = j
                · subst hcj
                  rw [if_pos (Nat.lt_succ_self c), bkF_succ, if_neg (fun z => e ⟨rfl, by rw [← z, edl]⟩)]
                · rw [if_neg (by omega)]
        · obtain ⟨⟨sm4, bk4⟩, y4, y5, rfl⟩ := hW
          rw [List.length_map] at bk4
          exact ⟨⟨sm4, bk4.congr fun c t hc => by rw [if_pos (by omega)]⟩, _, _, _, _, rfl⟩
      · obtain ⟨⟨sm2, bk2⟩, y2, y3, y4, y5, rfl⟩ := hW
        rw [List.length_map, lT] at bk2
        exact ⟨.ref D, rfl, q _ D cs bss sm2 nD fc fb lc bk2⟩
end
end LH

namespace LH
open PySem PySem.Spec PyProof.Rows L2
/-! ### first_groups -/
def sOf (bs : List Bool) (b : Bool) (i : Nat) : List Nat := (List.range i).filter fun s => decide (bs[s]? = some b)
theorem sOf_succ {bs : List Bool} {b : Bool} {i : Nat} {x : Bool} (h : bs[i]? = some x) : sOf bs b (i + 1) = if x = b then sOf bs b i ++ [i] else sOf bs b i := by
  unfold sOf
  rw [List.range_succ, List.filter_append]
  by_cases e : x = b
  · subst e
    rw [if_pos rfl]
    simp [h]
  · rw [if_neg e]
    simp [h, e]
theorem sOf_mem {bs : List Bool} {b : Bool} {i s : Nat} : s ∈ sOf bs b i ↔ s < i ∧ bs[s]? = some b := by
  unfold sOf
  rw [List.mem_filter, List.mem_range, decide_eq_true_iff]
theorem sOf_nd (bs : List Bool) (b : Bool) (i : Nat) : (sOf bs b i).Nodup := List.nodup_range.filter _
theorem sOf_len (bs : List Bool) (b : Bool) (i : Nat) : (sOf bs b i).length ≤ i := by
  unfold sOf
  refine Nat.le_trans (List.length_filter_le _ _) ?_
  rw [List.length_range]
  exact Nat.le_refl _
structure Pre (bs : List Bool) (gs : List (List Nat)) : Prop where
  nd : ∀ g ∈ gs, g.Nodup ∧ g ≠ []
  ex : ∀ s, s < bs.length → ∃ (h : Nat) (g : List Nat), gs[h]? = some g ∧ s ∈ g
  same : ∀ g ∈ gs, ∀ s, s ∈ g → s < bs.length ∧ ∀ t, t < bs.length → (t ∈ g ↔ bs[t]? = bs[s]?)
  disj : ∀ (h h' : Nat) (g g' : List Nat) (s : Nat), gs[h]? = some g → gs[h']? = some g' → s ∈ g → s ∈ g' → h = h'
theorem pre_of (bs : List Bool) : Pre bs (([sOf bs true bs.length, sOf bs false bs.length]).filter fun g => decide (g ≠ [])) := by
  have mm : ∀ g ∈ ([sOf bs true bs.length, sOf bs false bs.length]).filter (fun g => decide (g ≠ [])), g ≠ [] ∧ ∃ b, g = sOf bs b bs.length := fun g hg => by
    obtain ⟨h1, h2⟩ := List.mem_filter.mp hg
    refine ⟨of_decide_eq_true h2, ?_⟩
    simp only [List.mem_cons, List.mem_nil_iff, or_false] at h1
    rcases h1 with rfl | rfl
    · exact ⟨true, rfl⟩
    · exact ⟨false, rfl⟩
  refine ⟨fun g hg => ?_, fun s hs => ?_, fun g hg s hsg => ?_, fun h h' g g' s hg hg' hsg hsg' => ?_⟩
  · obtain ⟨h1, b, rfl⟩ := mm g hg
    exact ⟨sOf_nd _ _ _, h1⟩
  · have hb : bs[s]? = some bs[s] := List.getElem?_eq_getElem hs
    have hm : s ∈ sOf bs bs[s] bs.length := sOf_mem.mpr ⟨hs, hb⟩
    have : sOf bs bs[s] bs.length ∈ ([sOf bs true bs.length, sOf bs false bs.length]).filter (fun g => decide (g ≠ [])) := by
      refine List.mem_filter.mpr ⟨?_, decide_eq_true (List.ne_nil_of_mem hm)⟩
      cases bs[s] <;> simp
    obtain ⟨h, hh⟩ := List.mem_iff_getElem?.mp this
    exact ⟨h, _, hh, hm⟩
  · obtain ⟨h1, b, rfl⟩ := mm g hg
    obtain ⟨h2, h3⟩ := sOf_mem.mp hsg
    refine ⟨h2, fun t ht => ?_⟩
    rw [sOf_mem, h3]
    exact ⟨fun z => z.2, fun z => ⟨ht, z⟩⟩
  · have key : (([sOf bs true bs.length, sOf bs false bs.length]).filter fun g => decide (g ≠ [])).Nodup ∨ sOf bs true bs.length = [] := by
      by_cases e : sOf bs true bs.length = []
      · exact .inr e
      · refine .inl (List.Pairwise.filter _ ?_)
        show List.Nodup _
        rw [List.nodup_cons]
        refine ⟨fun z => ?_, by simp⟩
        have z : sOf bs true bs.length = sOf bs false bs.length := by simpa using z
        obtain ⟨x, hx⟩ := List.exists_mem_of_ne_nil _ e
        have h1 := (sOf_mem.mp hx).2
        rw [z] at hx
        have h2 := (sOf_mem.mp hx).2
        rw [h1] at h2
        cases h2
    have gg : g = g' := by
      obtain ⟨_, b, rfl⟩ := mm g (List.mem_of_getElem? hg)
      obtain ⟨_, b', rfl⟩ := mm g' (List.mem_of_getElem? hg')
      have h1 := (sOf_mem.mp hsg).2
      have h2 := (sOf_mem.mp hsg').2
      rw [h1] at h2
      cases h2
      rfl
    subst gg
    rcases key with key | key
    · exact nd_ix key hg hg'
    · have : (([sOf bs true bs.length, sOf bs false bs.length]).filter fun g => decide (g ≠ [])).length ≤ 1 := by
        rw [List.filter_cons, if_neg (by simp [key])]
        exact Nat.le_trans (List.length_filter_le _ _) (by simp)
      have a := (List.getElem?_eq_some_iff.mp hg).1
      have b := (List.getElem?_eq_some_iff.mp hg').1
      omega
section
variable {P : Program} {w : World} {K : PySem.W.Frag} {mg : Str → Option Value} {base : Heap}
def sp_first_groups : Sp := fun vs H Q _ => ∃ (e : Addr) (bs : List Bool), vs = [.ref e] ∧ H e = some (.lst (bs.map V.bl)) ∧ bs.length ≤ 1000000 ∧ ∀ H' gr as gs, Same H H' → H gr = none → (∀ a ∈ as, H a = none) → GrpAt H' gr as gs → Pre bs gs → Q (.ref gr) H'
theorem bool_at {bs : List Bool} {i : Nat} {x : V} (h : (bs.map V.bl)[i]? = some x) : ∃ b, bs[i]? = some b ∧ x = .bl b := by
  rw [List.getElem?_map] at h
  cases e : bs[i]? with
  | none =>
    rw [e] at h
    cases h
  | some s =>
    rw [e] at h
    cases h
    exact ⟨s, rfl, rfl⟩
theorem ok_first_groups (T : TX K mg) : FnOk P w K mg base CX0 1 T.a_first_groups T.fd_first_groups ["ended"] sp_first_groups := by
  refine T.F_first_groups.ok sc_first_groups (fun vs H Q E h => ?_) (fun cdv A outer s H vs Q E hr h => ?_)
  · obtain ⟨e, bs, rfl, _⟩ := h
    rfl
  · obtain ⟨e, bs, rfl, he, hbig, q⟩ := h
    refine ⟨_, (pss_cons (ps_set (i := 1) sc_first_groups.nd rfl (Or.inl rfl) pe_dnewK)
      (pss_cons (ps_set (i := 2) sc_first_groups.nd rfl (Or.inl rfl) pe_dnewK)
      (pss_cons (ps_for PassesOwn.never rfl (pi_enumK K rfl (by rfl) T.m_enumerate (pa_cons (pv 0) pa_nil)) (pg_tupK (n := 2) K rfl (by rfl) (pgs_cons (pg_name (i := 3) sc_first_groups.nd rfl (Or.inl rfl)) (pgs_cons (pg_name (i := 4) sc_first_groups.nd rfl (Or.inl rfl)) pgs_nil)))
        (pss_one (ps_if (pt_val (pv 4))
            (pss_one (ps_dput (hu_of hr) (pv 1) (pv 3) pe_bl rfl))
            (pss_one (ps_dput (hu_of hr) (pv 2) (pv 3) pe_bl rfl)))))
      (pss_one (ps_ret (pe_lc (own := [("group", 5)]) (g := gName 5) (by rfl) sc_first_groups.nd (pi_tupK K rfl (pe_tup (pa_cons (pv 1) (pa_cons (pv 2) pa_nil)))) (blkOk_by (own := [("group", 5)]) (N := N_first_groups) (by kernel_rfl)) (fun _ _ _ _ _ => (pg_name (i := 5) sc_first_groups.nd rfl (by first | exact Or.inl rfl | exact Or.inr rfl))) (fun _ _ _ _ _ => (pts_one (pt_cmpR op_gt (pe_callB call_lenD (by rfl) T.m_len (by decide +kernel) (pa_cons (pv 5) pa_nil)) pe_int (nomark _)))) (fun _ _ _ _ _ => (pv 5)))))))), ?_⟩
    refine fun d1 n1 => fun d2 n2 => ?_
    have d12 : d1 ≠ d2 := ne_of_none upd_same n2
    have n2' : H d2 = none := by
      rw [upd_ne (Ne.symm d12)] at n2
      exact n2
    have sm0 : Same H (upd (upd H d1 (.dK [])) d2 (.dK [])) := (same_new n1).trans (same_new n2)
    refine ⟨.ref e, rfl, e, _, rfl, .inl (.inl (sm0 _ _ he)), ?_⟩
    refine for_it (walk_enum (K := K) (a := e) (xs := bs.map V.bl)) (fun i σ H' => (Same H H' ∧ H' d1 = some (.dK (dk (sOf bs true i))) ∧ H' d2 = some (.dK (dk (sOf bs false i)))) ∧ ∃ y3 y4 y5, σ = [some (.ref e), some (.ref d1), some (.ref d2), y3, y4, y5]) ⟨⟨sm0, by rw [upd_ne d12, upd_same]; rfl, upd_same⟩, none, none, none, rfl⟩ (fun i σ H' _ hW => .inl (.inl (hW.1.1 _ _ he))) (fun i x σ H1 H1' hi hW hY => ?_) (fun σ H1 hW => ?_)
    · obtain ⟨⟨sm, h1, h2⟩, y3, y4, y5, rfl⟩ := hW
      obtain ⟨T1, v1, v2, rfl, nT1, rfl, e1, e2⟩ := hY
      cases e1
      obtain ⟨b, hb, rfl⟩ := bool_at e2
      rw [List.length_map] at hi
      refine ⟨T1, [.int (i : Int), .bl b], rfl, .inl (.inl upd_same), rfl, .int (i : Int), [.bl b], rfl, .bl b, [], rfl, rfl, ?_⟩
      have sm1 : Same H (upd H1 T1 (.tup [.int (i : Int), .bl b])) := sm.trans (same_new nT1)
      have g1 := same_new (o := .tup [.int (i : Int), .bl b]) nT1 _ _ h1
      have g2 := same_new (o := .tup [.int (i : Int), .bl b]) nT1 _ _ h2
      have notin : ∀ b, i ∉ sOf bs b i := fun b z => Nat.lt_irrefl _ (sOf_mem.mp z).1
      have small : ∀ b, (dk (sOf bs b i)).length < sizeLine := fun b => by
        rw [List.length_map]
        have := sOf_len bs b i
        exact Nat.lt_of_le_of_lt (show _ ≤ 1000000 by omega) (by decide)
      refine ⟨.bl b, rfl, b, rfl, ?_⟩
      cases b with
      | true =>
        refine iteT ?_
        refine ⟨.ref d1, rfl, .int (i : Int), rfl, d1, _, rfl, DPut.k (k := Sum.inl (i : Int)) g1 (small true), ⟨?_, ?_, ?_⟩, _, _, _, rfl⟩
        · intro b o e'
          rw [upd_ne (ne_of_none e' n1)]
          exact sm1 _ _ e'
        · rw [upd_same, putK_dk (notin true), sOf_succ hb, if_pos rfl]
        · rw [upd_ne (Ne.symm d12), sOf_succ hb, if_neg (by decide)]
          exact g2
      | false =>
        refine iteF ?_
        refine ⟨.ref d2, rfl, .int (i : Int), rfl, d2, _, rfl, DPut.k (k := Sum.inl (i : Int)) g2 (small false), ⟨?_, ?_, ?_⟩, _, _, _, rfl⟩
        · intro b o e'
          rw [upd_ne (ne_of_none e' n2')]
          exact sm1 _ _ e'
        · rw [upd_ne d12, sOf_succ hb, if_neg (by decide)]
          exact g1
        · rw [upd_same, putK_dk (notin false), sOf_succ hb, if_pos rfl]
    · obtain ⟨⟨sm, h1, h2⟩, y3, y4, y5, rfl⟩ := hW
      rw [List.length_map] at h1 h2
      refine ⟨.ref d1, rfl, .ref d2, rfl, by show 2 ≤ sizeLine; decide, fun t nt => ?_⟩
      refine ⟨t, rfl, ⟨_, .inl (.inl upd_same)⟩, fun D nD => ?_⟩
      have fD : H D = none := (sm.trans (same_new nt)).free nD
      have tD : t ≠ D := ne_of_none upd_same nD
      have g1 := same_new (o := .tup [.ref d1, .ref d2]) nt _ _ h1
      have g2 := same_new (o := .tup [.ref d1, .ref d2]) nt _ _ h2
      have e1D : d1 ≠ D := ne_of_none g1 nD
      have e2D : d2 ≠ D := ne_of_none g2 nD
      have ft : H t = none := sm.free nt
      refine lc_it (walk_tup (K := K) (a := t) (xs := [.ref d1, .ref d2])) (fun i H' => (Same H H' ∧ H' t = some (.tup [.ref d1, .ref d2]) ∧ H' d1 = some (.dK (dk (sOf bs true bs.length))) ∧ H' d2 = some (.dK (dk (sOf bs false bs.length)))) ∧ H' D = some (.lst (vr (((([(d1, sOf bs true bs.length), (d2, sOf bs false bs.length)] : List (Addr × List Nat)).take i).filter fun p => decide (p.2 ≠ [])).map (·.1))))) ⟨⟨(sm.trans (same_new nt)).trans (same_new nD), by rw [upd_ne tD, upd_same], same_new nD _ _ g1, same_new nD _ _ g2⟩, upd_same⟩ (fun i H' _ hW => .inl (.inl hW.1.2.1)) (fun i x H2 H2' hi hW hY => ?_) (fun H2 hW => ?_)
      · obtain ⟨⟨sm2, ht2, k1, k2⟩, kD⟩ := hW
        obtain ⟨rfl, hx⟩ := hY
        have step : ∀ (d : Addr) (g : List Nat), ([(d1, sOf bs true bs.length), (d2, sOf bs false bs.length)] : List (Addr × List Nat))[i]? = some (d, g) → x = .ref d → H2' d = some (.dK (dk g)) → gName 5 x (wipe [some (.ref e), some (.ref d1), some (.ref d2), y3, y4, y5] [5]) H2' fun σ2 H2 => wipe σ2 [5] = wipe [some (.ref e), some (.ref d1), some (.ref d2), y3, y4, y5] [5] ∧
            (tTest (tOp (rI0 fun i j => V.bl (decide (j < i))) (tCB (fun xs H Q => ∃ a kvs, xs = [V.ref a] ∧ H a = some (.dK kvs) ∧ Q (.int kvs.length) H) (tCons (tVar 5) tNil)) (tC (.int 0)))) σ2 H2 fun b H3 => if b = true then (tVar 5) σ2 H3 fun y H4 => ∃ acc, H4 D = some (.lst acc) ∧ acc.length < sizeLine ∧
              ((Same H (upd H4 D (.lst (acc ++ [y]))) ∧ (upd H4 D (.lst (acc ++ [y]))) t = some (.tup [.ref d1, .ref d2]) ∧ (upd H4 D (.lst (acc ++ [y]))) d1 = some (.dK (dk (sOf bs true bs.length))) ∧ (upd H4 D (.lst (acc ++ [y]))) d2 = some (.dK (dk (sOf bs false bs.length)))) ∧ (upd H4 D (.lst (acc ++ [y]))) D = some (.lst (vr (((([(d1, sOf bs true bs.length), (d2, sOf bs false bs.length)] : List (Addr × List Nat)).take (i + 1)).filter fun p => decide (p.2 ≠ [])).map (·.1)))))
              else ((Same H H3 ∧ H3 t = some (.tup [.ref d1, .ref d2]) ∧ H3 d1 = some (.dK (dk (sOf bs true bs.length))) ∧ H3 d2 = some (.dK (dk (sOf bs false bs.length)))) ∧ H3 D = some (.lst (vr (((([(d1, sOf bs true bs.length), (d2, sOf bs false bs.length)] : List (Addr × List Nat)).take (i + 1)).filter fun p => decide (p.2 ≠ [])).map (·.1))))) := by
          intro d g hp hx' hd
          subst hx'
          refine ⟨rfl, .ref d, rfl, d, _, rfl, hd, _, 0, rfl, rfl, _, rfl, ite2 (fun z => ?_) (fun z => ?_)⟩
          · have hne : g ≠ [] := fun y => by
              subst y
              have := of_decide_eq_true z
              exact absurd this (by decide)
            refine ⟨.ref d, rfl, _, kD, ?_, ⟨?_, ?_, ?_, ?_⟩, ?_⟩
            · rw [List.length_map, List.length_map]
              refine Nat.lt_of_le_of_lt (List.length_filter_le _ _) ?_
              rw [List.length_take]
              exact Nat.lt_of_le_of_lt (show _ ≤ 1000 by simp; omega) (by decide)
            · intro b o e'
              rw [upd_ne (ne_of_none e' fD)]
              exact sm2 _ _ e'
            · rw [upd_ne tD]
              exact ht2
            · rw [upd_ne e1D]
              exact k1
            · rw [upd_ne e2D]
              exact k2
            · rw [upd_same, take_snoc hp, List.filter_append, List.map_append]
              have : ([(d, g)].filter fun p => decide (p.2 ≠ [])) = [(d, g)] := by simp [hne]
              rw [this]
              exact congrArg (fun z => some (HO.lst z)) (vr_snoc _ d)
          · have hne : g = [] := by
              cases g with
              | nil => rfl
              | cons a r =>
                refine absurd (decide_eq_true ?_) z
                rw [List.length_map]
                show (0 : Int) < ((r.length + 1 : Nat) : Int)
                omega
            refine ⟨⟨sm2, ht2, k1, k2⟩, ?_⟩
            rw [take_snoc hp, List.filter_append]
            have : ([(d, g)].filter fun p => decide (p.2 ≠ [])) = [] := by simp [hne]
            rw [this, List.append_nil]
            exact kD
        have hi2 : i < 2 := hi
        have hi3 : i = 0 ∨ i = 1 := by omega
        rcases hi3 with rfl | rfl
        · cases hx
          exact step d1 _ rfl rfl k1
        · cases hx
          exact step d2 _ rfl rfl k2
      · obtain ⟨⟨sm2, ht2, k1, k2⟩, kD⟩ := hW
        have pr := pre_of bs
        have em : (([(d1, sOf bs true bs.length), (d2, sOf bs false bs.length)] : List (Addr × List Nat)).filter fun p => decide (p.2 ≠ [])).map (·.2) = ([sOf bs true bs.length, sOf bs false bs.length]).filter fun g => decide (g ≠ []) := by
          rw [show [sOf bs true bs.length, sOf bs false bs.length] = ([(d1, sOf bs true bs.length), (d2, sOf bs false bs.length)] : List (Addr × List Nat)).map (·.2) from rfl, List.filter_map]
          rfl
        rw [← em] at pr
        have al : ∀ p ∈ ([(d1, sOf bs true bs.length), (d2, sOf bs false bs.length)] : List (Addr × List Nat)), H p.1 = none ∧ H2 p.1 = some (.dK (dk p.2)) := fun p hp => by
          simp only [List.mem_cons, List.mem_nil_iff, or_false] at hp
          rcases hp with rfl | rfl
          · exact ⟨n1, k1⟩
          · exact ⟨n2', k2⟩
        refine q H2 D _ _ sm2 fD (fun a ha => ?_) ⟨kD, ?_, ?_, fun i a g x y => ?_⟩ pr
        · obtain ⟨p, hp, rfl⟩ := List.mem_map.mp ha
          exact (al p (List.mem_filter.mp hp).1).1
        · have s1 : (((([(d1, sOf bs true bs.length), (d2, sOf bs false bs.length)] : List (Addr × List Nat))).filter fun p => decide (p.2 ≠ [])).map (·.1)).Sublist [d1, d2] := (List.filter_sublist (l := [(d1, sOf bs true bs.length), (d2, sOf bs false bs.length)])).map _
          exact s1.nodup (by simp [d12])
        · rw [List.length_map, List.length_map]
          rfl
        · rw [List.getElem?_map] at x y
          obtain ⟨p, hp, rfl⟩ := Option.map_eq_some_iff.mp x
          have hp' : ((([(d1, sOf bs true bs.length), (d2, sOf bs false bs.length)] : List (Addr × List Nat))).filter fun p => decide (p.2 ≠ []))[i]? = some p := hp
          rw [hp'] at y
          cases y
          exact (al p (List.mem_filter.mp (List.mem_of_getElem? hp')).1).2
end
end LH

namespace LH
open PySem PySem.Spec PyProof.Rows L2
/-! ### like states -/
def runs (rows : List (List Nat)) (s : Nat) (w : List Nat) : Nat := w.foldl (dl rows) s
def Eqv (rows : List (List Nat)) (bs : List Bool) (L s t : Nat) : Prop := ∀ w : List Nat, (∀ c ∈ w, c < L) → bs[runs rows s w]? = bs[runs rows t w]?
theorem Eqv.step {rows : List (List Nat)} {bs : List Bool} {L s t c : Nat} (h : Eqv rows bs L s t) (hc : c < L) : Eqv rows bs L (dl rows s c) (dl rows t c) := fun w hw => h (c :: w) fun d hd => by
  rcases List.mem_cons.mp hd with rfl | hd
  · exact hc
  · exact hw d hd
structure PInv (rows : List (List Nat)) (bs : List Bool) (n L a : Nat) (gs : List (List Nat)) (hl : List Nat) : Prop where
  part : Part n gs hl
  co : ∀ s t, s < n → t < n → Eqv rows bs L s t → hl[s]? = hl[t]?
  fin : ∀ s t, s < n → t < n → hl[s]? = hl[t]? → bs[s]? = bs[t]?
  st : ∀ s t c p q, s < n → t < n → c < L → hl[s]? = hl[t]? → hl[dl rows s c]? = some p → hl[dl rows t c]? = some q → p < a → q < a → p = q
theorem PInv.last {rows : List (List Nat)} {bs : List Bool} {n L a : Nat} {gs : List (List Nat)} {hl : List Nat} (k : TabOk n L rows) (h : PInv rows bs n L a gs hl) (ha : gs.length ≤ a) : ∀ s t, s < n → t < n → (hl[s]? = hl[t]? ↔ Eqv rows bs L s t) := by
  intro s t hs ht
  refine ⟨fun e w => ?_, h.co s t hs ht⟩
  induction w generalizing s t with
  | nil => exact fun _ => h.fin s t hs ht e
  | cons c w ih =>
    intro hw
    have hc := hw c (List.mem_cons_self ..)
    have h1 := k.dl_lt hs hc
    have h2 := k.dl_lt ht hc
    have l1 : dl rows s c < hl.length := by rw [h.part.len]; exact h1
    have l2 : dl rows t c < hl.length := by rw [h.part.len]; exact h2
    have g1 : hl[dl rows s c]? = some hl[dl rows s c] := List.getElem?_eq_getElem l1
    have g2 : hl[dl rows t c]? = some hl[dl rows t c] := List.getElem?_eq_getElem l2
    have := h.st s t c _ _ hs ht hc e g1 g2 (Nat.lt_of_lt_of_le (h.part.lt _ _ g1) ha) (Nat.lt_of_lt_of_le (h.part.lt _ _ g2) ha)
    exact ih _ _ h1 h2 (by rw [g1, g2, this]) fun d hd => hw d (List.mem_cons_of_mem _ hd)
structure Ref (n k : Nat) (hl0 hl : List Nat) : Prop where
  fine : ∀ s t, s < n → t < n → hl[s]? = hl[t]? → hl0[s]? = hl0[t]?
  low : ∀ (s h : Nat), hl[s]? = some h → h < k → hl0[s]? = some h
theorem Ref.refl (n k : Nat) (hl : List Nat) : Ref n k hl hl := ⟨fun _ _ _ _ h => h, fun _ _ h _ => h⟩
theorem Ref.trans {n k k' : Nat} {a b c : List Nat} (h : Ref n k a b) (h' : Ref n k' b c) (l : k ≤ k') : Ref n k a c := ⟨fun s t hs ht e => h.fine s t hs ht (h'.fine s t hs ht e), fun s x e lt => h.low s x (h'.low s x e (by omega)) lt⟩
theorem Split.ref {n home : Nat} {gs gs' : List (List Nat)} {hl hl' hit : List Nat} (p : Part n gs hl) (h : Split n gs gs' hl hl' home hit) : Ref n gs.length hl hl' := by
  obtain ⟨B, hB, _⟩ := h.map
  refine ⟨fun s t hs ht e => ?_, fun s x e lt => ?_⟩
  · rw [hB s, hB t] at e
    by_cases c1 : hl[s]? = some home ∧ B s = true
    · rw [if_pos c1] at e
      by_cases c2 : hl[t]? = some home ∧ B t = true
      · rw [c1.1, c2.1]
      · rw [if_neg c2] at e
        exact absurd (p.lt t _ e.symm) (Nat.lt_irrefl _)
    · rw [if_neg c1] at e
      by_cases c2 : hl[t]? = some home ∧ B t = true
      · rw [if_pos c2] at e
        exact absurd (p.lt s _ e) (Nat.lt_irrefl _)
      · rw [if_neg c2] at e
        exact e
  · rw [hB s] at e
    by_cases c1 : hl[s]? = some home ∧ B s = true
    · rw [if_pos c1] at e
      cases e
      omega
    · rw [if_neg c1] at e
      exact e
/-- two states of one new group: both hit or none -/
theorem Split.sep {n home : Nat} {gs gs' : List (List Nat)} {hl hl' hit : List Nat} (p : Part n gs hl) (h : Split n gs gs' hl hl' home hit) {s t : Nat} (hs : s < n) (ht : t < n) (e : hl'[s]? = hl'[t]?) (hh : hl[s]? = some home) : (s ∈ hit ↔ t ∈ hit) := by
  have ht' : hl[t]? = some home := by rw [← (h.ref p).fine s t hs ht e]; exact hh
  obtain ⟨B, hB, hc⟩ := h.map
  have bb : B s = true ↔ B t = true := by
    rw [hB s, hB t] at e
    by_cases c1 : B s = true
    · rw [if_pos ⟨hh, c1⟩] at e
      by_cases c2 : B t = true
      · exact ⟨fun _ => c2, fun _ => c1⟩
      · rw [if_neg (fun z => c2 z.2)] at e
        exact absurd (p.lt t _ e.symm) (Nat.lt_irrefl _)
    · rw [if_neg (fun z => c1 z.2)] at e
      by_cases c2 : B t = true
      · rw [if_pos ⟨ht', c2⟩] at e
        exact absurd (p.lt s _ e) (Nat.lt_irrefl _)
      · exact ⟨fun z => absurd z c1, fun z => absurd z c2⟩
  rcases hc with hc | hc
  · rw [← hc s hh, ← hc t ht', bb]
  · have h1 := hc s hh
    have h2 := hc t ht'
    by_cases q1 : s ∈ hit
    · by_cases q2 : t ∈ hit
      · exact ⟨fun _ => q2, fun _ => q1⟩
      · exact absurd q1 (h1.mp (bb.mpr (h2.mpr q2)))
    · by_cases q2 : t ∈ hit
      · exact absurd q2 (h2.mp (bb.mp (h1.mpr q1)))
      · exact ⟨fun z => absurd z q1, fun z => absurd z q2⟩
theorem Split.stay {n home : Nat} {gs gs' : List (List Nat)} {hl hl' hit : List Nat} (h : Split n gs gs' hl hl' home hit) {s x : Nat} (e : hl[s]? = some x) (ne : x ≠ home) : hl'[s]? = some x := by
  obtain ⟨B, hB, _⟩ := h.map
  rw [hB s, if_neg (fun z => ne (by rw [e] at z; exact Option.some.inj z.1))]
  exact e
theorem Split.co {n home : Nat} {gs gs' : List (List Nat)} {hl hl' hit : List Nat} (h : Split n gs gs' hl hl' home hit) {s t : Nat} (e : hl[s]? = hl[t]?) (hst : hl[s]? = some home → (s ∈ hit ↔ t ∈ hit)) : hl'[s]? = hl'[t]? := by
  obtain ⟨B, hB, hc⟩ := h.map
  rw [hB s, hB t]
  by_cases c : hl[s]? = some home
  · have c' : hl[t]? = some home := by rw [← e]; exact c
    have bb : B s = true ↔ B t = true := by
      rcases hc with hc | hc
      · rw [hc s c, hc t c', hst c]
      · rw [hc s c, hc t c', hst c]
    by_cases b : B s = true
    · rw [if_pos ⟨c, b⟩, if_pos ⟨c', bb.mp b⟩]
    · rw [if_neg (fun z => b z.2), if_neg (fun z => b (bb.mpr z.2)), e]
  · rw [if_neg (fun z => c z.1), if_neg (fun z => c (by rw [e]; exact z.1)), e]
/-- within a letter: the homes told so far are parted -/
structure HInv (rows : List (List Nat)) (bs : List Bool) (n L k1 : Nat) (hl1 F : List Nat) (es : List Ent) (j : Nat) (gs : List (List Nat)) (hl : List Nat) : Prop where
  part : Part n gs hl
  co : ∀ s t, s < n → t < n → Eqv rows bs L s t → hl[s]? = hl[t]?
  ref : Ref n k1 hl1 hl
  kept : ∀ (s h : Nat), hl1[s]? = some h → (∀ (i : Nat) (e : Ent), i < j → es[i]? = some e → e.1 ≠ h) → hl[s]? = some h
  sep : ∀ s t, s < n → t < n → hl[s]? = hl[t]? → (∃ (i : Nat) (e : Ent), i < j ∧ es[i]? = some e ∧ hl1[s]? = some e.1) → (s ∈ F ↔ t ∈ F)
  grow : k1 ≤ gs.length
theorem HInv.step {rows : List (List Nat)} {bs : List Bool} {n L k1 j : Nat} {hl1 F : List Nat} {es : List Ent} {gs gs' : List (List Nat)} {hl hl' : List Nat} {e : Ent} (h : HInv rows bs n L k1 hl1 F es j gs hl) (he : es[j]? = some e) (nd : (es.map (·.1)).Nodup) (hx : e.2.2 = F.filter fun s => decide (hl1[s]? = some e.1))
    (cl : ∀ s t, s < n → t < n → Eqv rows bs L s t → (s ∈ F ↔ t ∈ F)) (sp : Split n gs gs' hl hl' e.1 e.2.2) : HInv rows bs n L k1 hl1 F es (j + 1) gs' hl' := by
  have keyne : ∀ (i : Nat) (e' : Ent), i < j → es[i]? = some e' → e'.1 ≠ e.1 := fun i e' hi hi' z => by
    have a : (es.map (·.1))[i]? = some e'.1 := by rw [List.getElem?_map, hi']; rfl
    have b : (es.map (·.1))[j]? = some e'.1 := by rw [List.getElem?_map, he, z]; rfl
    have := nd_ix nd a b
    omega
  have mem : ∀ s, hl1[s]? = some e.1 → (s ∈ e.2.2 ↔ s ∈ F) := fun s hs => by
    rw [hx, List.mem_filter]
    exact ⟨fun z => z.1, fun z => ⟨z, decide_eq_true hs⟩⟩
  have back : ∀ s, hl[s]? = some e.1 → e.1 < k1 → hl1[s]? = some e.1 := fun s hs lt => h.ref.low s _ hs lt
  have r2 := sp.ref h.part
  refine ⟨sp.part, fun s t hs ht q => sp.co (h.co s t hs ht q) fun hh => ?_, h.ref.trans r2 h.grow, fun s x hs hn => ?_, fun s t hs ht q hi => ?_, Nat.le_trans h.grow sp.grow⟩
  · rw [hx, List.mem_filter, List.mem_filter, cl s t hs ht q]
    have f1 := h.ref.fine s t hs ht (h.co s t hs ht q)
    rw [f1]
  · refine sp.stay (h.kept s x hs fun i e' hi hi' => hn i e' (by omega) hi') fun z => ?_
    exact hn j e (Nat.lt_succ_self j) he z.symm
  · have q' := r2.fine s t hs ht q
    obtain ⟨i, e', hi, hi', hs'⟩ := hi
    by_cases c : i < j
    · exact h.sep s t hs ht q' ⟨i, e', c, hi', hs'⟩
    · have : i = j := by omega
      subst this
      rw [he] at hi'
      cases hi'
      have hs2 : hl[s]? = some e.1 := h.kept s _ hs' fun i e' hi hi' => keyne i e' hi hi'
      have := sp.sep h.part hs ht q hs2
      rw [mem s hs', mem t (by rw [← h.ref.fine s t hs ht q']; exact hs')] at this
      exact this
/-- by letters: behind c of them the targets are told apart -/
structure LInv (rows : List (List Nat)) (bs : List Bool) (n L k0 : Nat) (hl0 g : List Nat) (c : Nat) (gs : List (List Nat)) (hl : List Nat) : Prop where
  part : Part n gs hl
  co : ∀ s t, s < n → t < n → Eqv rows bs L s t → hl[s]? = hl[t]?
  ref : Ref n k0 hl0 hl
  sep : ∀ s t a, s < n → t < n → hl[s]? = hl[t]? → a < c → (dl rows s a ∈ g ↔ dl rows t a ∈ g)
  grow : k0 ≤ gs.length
theorem HInv.last {rows : List (List Nat)} {bs : List Bool} {n L k0 c : Nat} {hl0 hl1 g F : List Nat} {es : List Ent} {gs1 gs : List (List Nat)} {hl : List Nat} (l : LInv rows bs n L k0 hl0 g c gs1 hl1) (h : HInv rows bs n L gs1.length hl1 F es es.length gs hl) (hF : ∀ s, s ∈ F ↔ s < n ∧ dl rows s c ∈ g)
    (all : ∀ s ∈ F, ∃ e ∈ es, hl1[s]? = some e.1) : LInv rows bs n L k0 hl0 g (c + 1) gs hl := by
  refine ⟨h.part, h.co, l.ref.trans h.ref l.grow, fun s t a hs ht q ha => ?_, Nat.le_trans l.grow h.grow⟩
  have q1 := h.ref.fine s t hs ht q
  by_cases e : a < c
  · exact l.sep s t a hs ht q1 e
  · have : a = c := by omega
    subst this
    have key : s ∈ F ↔ t ∈ F := by
      by_cases z : ∃ (i : Nat) (e : Ent), i < es.length ∧ es[i]? = some e ∧ hl1[s]? = some e.1
      · exact h.sep s t hs ht q z
      · refine ⟨fun y => ?_, fun y => ?_⟩
        · obtain ⟨e, he, q2⟩ := all s y
          obtain ⟨i, hi⟩ := List.mem_iff_getElem?.mp he
          exact absurd ⟨i, e, (List.getElem?_eq_some_iff.mp hi).1, hi, q2⟩ z
        · obtain ⟨e, he, q2⟩ := all t y
          obtain ⟨i, hi⟩ := List.mem_iff_getElem?.mp he
          exact absurd ⟨i, e, (List.getElem?_eq_some_iff.mp hi).1, hi, by rw [q1]; exact q2⟩ z
    rw [hF s, hF t] at key
    exact ⟨fun z => (key.mp ⟨hs, z⟩).2, fun z => (key.mpr ⟨ht, z⟩).2⟩
theorem LInv.last {rows : List (List Nat)} {bs : List Bool} {n L a : Nat} {hl0 g : List Nat} {gs0 gs : List (List Nat)} {hl : List Nat} (p : PInv rows bs n L a gs0 hl0) (ha : gs0[a]? = some g) (l : LInv rows bs n L gs0.length hl0 g L gs hl) : PInv rows bs n L (a + 1) gs hl := by
  have hlt : a < gs0.length := (List.getElem?_eq_some_iff.mp ha).1
  refine ⟨l.part, l.co, fun s t hs ht q => p.fin s t hs ht (l.ref.fine s t hs ht q), fun s t c x y hs ht hc q hx hy lx ly => ?_⟩
  have hx0 := l.ref.low _ _ hx (by omega)
  have hy0 := l.ref.low _ _ hy (by omega)
  have sp := l.sep s t c hs ht q hc
  rw [p.part.mem a g ha, p.part.mem a g ha, hx0, hy0] at sp
  by_cases e1 : x = a
  · rw [e1] at sp
    have := sp.mp rfl
    rw [e1]
    exact (Option.some.inj this).symm
  · by_cases e2 : y = a
    · rw [e2] at sp
      exact absurd (Option.some.inj (sp.mpr rfl)) e1
    · exact p.st s t c x y hs ht hc (l.ref.fine s t hs ht q) hx0 hy0 (by omega) (by omega)
theorem flat_mem {rows : List (List Nat)} {n L c : Nat} {g : List Nat} (k : TabOk n L rows) (hc : c < L) (hg : ∀ s ∈ g, s < n) : ∀ s, s ∈ flat ((List.range n).map (bkF rows n c)) g ↔ s < n ∧ dl rows s c ∈ g := fun s => by
  have wd : ∀ t, t < n → ((List.range n).map (bkF rows n c)).getD t [] = bkF rows n c t := fun t ht => by
    rw [List.getD_eq_getElem?_getD, List.getElem?_map, List.getElem?_range ht]
    rfl
  have bm : ∀ t, s ∈ bkF rows n c t ↔ s < n ∧ dl rows s c = t := fun t => by
    unfold bkF
    rw [List.mem_filter, List.mem_range, decide_eq_true_iff]
  unfold flat
  rw [List.mem_flatten]
  constructor
  · rintro ⟨l, hl, hs⟩
    obtain ⟨t, ht, rfl⟩ := List.mem_map.mp hl
    rw [wd t (hg t ht), bm t] at hs
    exact ⟨hs.1, by rw [hs.2]; exact ht⟩
  · intro h
    exact ⟨_, List.mem_map.mpr ⟨_, h.2, rfl⟩, by rw [wd _ (hg _ h.2), bm]; exact ⟨h.1, rfl⟩⟩
theorem flat_nd {rows : List (List Nat)} {n c : Nat} : ∀ {g : List Nat}, g.Nodup → (∀ s ∈ g, s < n) → (flat ((List.range n).map (bkF rows n c)) g).Nodup
  | [], _, _ => List.nodup_nil
  | t :: r, nd, hg => by
    have wd : ∀ t, t < n → ((List.range n).map (bkF rows n c)).getD t [] = bkF rows n c t := fun t ht => by
      rw [List.getD_eq_getElem?_getD, List.getElem?_map, List.getElem?_range ht]
      rfl
    have nd' := List.nodup_cons.mp nd
    show (((List.range n).map (bkF rows n c)).getD t [] ++ flat ((List.range n).map (bkF rows n c)) r).Nodup
    rw [wd t (hg t (List.mem_cons_self ..)), List.nodup_append]
    refine ⟨List.nodup_range.filter _, flat_nd nd'.2 fun s hs => hg s (List.mem_cons_of_mem _ hs), fun x hx y hy e => ?_⟩
    subst e
    unfold flat at hy
    obtain ⟨l, hl, hs⟩ := List.mem_flatten.mp hy
    obtain ⟨t', ht', rfl⟩ := List.mem_map.mp hl
    rw [wd t' (hg t' (List.mem_cons_of_mem _ ht'))] at hs
    have a := of_decide_eq_true (List.mem_filter.mp hx).2
    have b := of_decide_eq_true (List.mem_filter.mp hs).2
    exact nd'.1 (by rw [← a, b]; exact ht')
end LH

namespace LH
open PySem PySem.Spec PyProof.Rows L2
theorem find_nd {es : List Ent} {j : Nat} {e : Ent} (nd : (es.map (·.1)).Nodup) (h : es[j]? = some e) : (es.find? fun x => decide (x.1 = e.1)) = some e := by
  induction es generalizing j with
  | nil => simp at h
  | cons a r ih =>
    rw [List.map_cons, List.nodup_cons] at nd
    rw [List.find?_cons]
    cases j with
    | zero =>
      cases h
      simp
    | succ j =>
      have h' : r[j]? = some e := by simpa using h
      have hne : ¬ a.1 = e.1 := fun z => nd.1 (by rw [z]; exact List.mem_map.mpr ⟨e, List.mem_of_getElem? h', rfl⟩)
      simp only [hne, decide_false]
      exact ih nd.2 h'
theorem ek_get {es : List Ent} {i : Nat} {k : Key} {v : V} (h : (ek es)[i]? = some (k, v)) : ∃ e, es[i]? = some e ∧ k = Sum.inl (e.1 : Int) ∧ v = .ref e.2.1 := by
  rw [List.getElem?_map] at h
  cases e : es[i]? with
  | none =>
    rw [e] at h
    cases h
  | some s =>
    rw [e] at h
    cases h
    exact ⟨s, rfl, rfl, rfl⟩
theorem BK.off {H H' : Hp} {bk gr ho : Addr} {cs as : List Addr} {bss : List (List Addr)} {gs : List (List Nat)} {n : Nat} {F : Nat → Nat → List Nat} (h : BK H bk cs bss n F) (G : GrpAt H gr as gs) (nB : ∀ b, b = bk ∨ b ∈ cs ∨ b ∈ bss.flatten → b ≠ gr ∧ b ≠ ho) (off : OffG gr ho as H H') : BK H' bk cs bss n F := by
  have key : ∀ b xs, (b = bk ∨ b ∈ cs ∨ b ∈ bss.flatten) → H b = some (.lst xs) → H' b = some (.lst xs) := fun b xs hb e => off b _ (nB b hb).1 (nB b hb).2 (G.not e (by intro g z; cases z)) e
  refine ⟨key _ _ (.inl rfl) h.top, h.len, fun c a bs x y => ?_, fun c t bs b x y => ?_, h.nd⟩
  · obtain ⟨z1, z2⟩ := h.col c a bs x y
    exact ⟨key _ _ (.inr (.inl (List.mem_of_getElem? x))) z1, z2⟩
  · exact key _ _ (.inr (.inr (List.mem_flatten.mpr ⟨bs, List.mem_of_getElem? x, List.mem_of_getElem? y⟩))) (h.cell c t bs b x y)
theorem BK.lol {H : Hp} {bk : Addr} {cs : List Addr} {bss : List (List Addr)} {n : Nat} {F : Nat → Nat → List Nat} (h : BK H bk cs bss n F) {c : Nat} {a : Addr} (ha : cs[c]? = some a) : ∃ bs, LolAt H a bs ((List.range n).map (F c)) := by
  have hc : c < bss.length := by
    rw [← h.len]
    exact (List.getElem?_eq_some_iff.mp ha).1
  obtain ⟨z1, z2⟩ := h.col c a _ ha (List.getElem?_eq_getElem hc)
  refine ⟨bss[c], z1, by rw [List.length_map, List.length_range]; exact z2, fun t b w x y => ?_⟩
  have ht : t < n := by
    have := (List.getElem?_eq_some_iff.mp x).1
    omega
  rw [List.getElem?_map, List.getElem?_range ht] at y
  cases y
  exact h.cell c t _ b (List.getElem?_eq_getElem hc) x
theorem PInv.start {rows : List (List Nat)} {bs : List Bool} {n L : Nat} {gs : List (List Nat)} {hl : List Nat} (pr : Pre bs gs) (hn : bs.length = n) (len : hl.length = n) (hh : ∀ (s h : Nat) (g : List Nat), gs[h]? = some g → s ∈ g → hl[s]? = some h) : PInv rows bs n L 0 gs hl := by
  have bk : ∀ (s h : Nat), hl[s]? = some h → ∃ g, gs[h]? = some g ∧ s ∈ g := fun s h e => by
    have hs : s < n := by
      rw [← len]
      exact (List.getElem?_eq_some_iff.mp e).1
    obtain ⟨h', g, hg, hm⟩ := pr.ex s (by omega)
    have := hh s h' g hg hm
    rw [e] at this
    cases this
    exact ⟨g, hg, hm⟩
  have part : Part n gs hl := ⟨len, fun h g hg s => ⟨fun z => hh s h g hg z, fun z => by
      obtain ⟨g', hg', hm⟩ := bk s h z
      rw [hg] at hg'
      cases hg'
      exact hm⟩, fun s h e => by
      obtain ⟨g, hg, _⟩ := bk s h e
      exact (List.getElem?_eq_some_iff.mp hg).1, fun g hg => (pr.nd g hg).1, fun g hg => (pr.nd g hg).2⟩
  refine ⟨part, fun s t hs ht e => ?_, fun s t hs ht e => ?_, fun s t c p q _ _ _ _ _ _ lp _ => absurd lp (Nat.not_lt_zero p)⟩
  · obtain ⟨h, g, hg, hm⟩ := pr.ex s (by omega)
    have e0 : bs[s]? = bs[t]? := e [] (fun _ h => nomatch h)
    have hm' : t ∈ g := ((pr.same g (List.mem_of_getElem? hg) s hm).2 t (by omega)).mpr e0.symm
    rw [hh s h g hg hm, hh t h g hg hm']
  · obtain ⟨h, g, hg, hm⟩ := pr.ex s (by omega)
    have es := hh s h g hg hm
    rw [es] at e
    obtain ⟨g', hg', hm'⟩ := bk t h e.symm
    rw [hg] at hg'
    cases hg'
    exact (((pr.same g (List.mem_of_getElem? hg) s hm).2 t (by omega)).mp hm').symm
section
variable {P : Program} {w : World} {K : PySem.W.Frag} {mg : Str → Option Value} {base : Heap}
def sp_parted : Sp := fun vs H Q _ => ∃ (tb e : Addr) (ras : List Addr) (rows : List (List Nat)) (bs : List Bool) (n L : Nat), vs = [.ref tb, .ref e] ∧ LolAt H tb ras rows ∧ TabOk n L rows ∧ H e = some (.lst (bs.map V.bl)) ∧ bs.length = n ∧
  ∀ H' ho hl, Same H H' → H ho = none → H' ho = some (.lst (vi hl)) → hl.length = n → (∀ s t, s < n → t < n → (hl[s]? = hl[t]? ↔ Eqv rows bs L s t)) → Q (.ref ho) H'
theorem ok_parted (T : TX K mg) : FnOk P w K mg base CX0 2 T.a_parted T.fd_parted ["table", "ended"] sp_parted := by
  have G_first_groups : FnOk P w K mg base CX0 1 T.a_first_groups T.fd_first_groups ["ended"] sp_first_groups := ok_first_groups T
  have G_ways_back : FnOk P w K mg base CX0 1 T.a_ways_back T.fd_ways_back ["table"] sp_ways_back := ok_ways_back T
  have G_hits_of : FnOk P w K mg base CX0 1 T.a_hits_of T.fd_hits_of ["back", "targets", "homes"] sp_hits_of := ok_hits_of T
  have G_split_group : FnOk P w K mg base CX0 1 T.a_split_group T.fd_split_group ["groups", "homes", "home", "hit"] sp_split_group := ok_split_group T
  refine T.F_parted.ok sc_parted (fun vs H Q E h => ?_) (fun cdv A outer s H vs Q E hr h => ?_)
  · obtain ⟨tb, e, ras, rows, bs, n, L, rfl, _⟩ := h
    rfl
  · obtain ⟨tb, e, ras, rows, bs, n, L, rfl, hT, k, he, hbs, q⟩ := h
    refine ⟨_, (pss_cons (ps_set (i := 2) sc_parted.nd rfl (Or.inl rfl) (pe_call G_first_groups (hr.mono (by decide)) (by rfl) T.g_first_groups T.F_first_groups.kp T.b_first_groups .nil pass0 (pa_cons (pv 1) pa_nil)))
      (pss_cons (ps_setLc (i := 3) (own := [("row", 13)]) (g := gName 13) (tt := tYes) (by rfl) sc_parted.nd rfl rfl (sw_true rfl rfl rfl (by decide +kernel)) (pi_listK K rfl (pv 0)) (blkOk_by (own := [("row", 13)]) (N := N_parted) (by kernel_rfl)) (fun _ _ _ _ _ => (pg_name (i := 13) sc_parted.nd rfl (by first | exact Or.inl rfl | exact Or.inr rfl))) (fun _ _ _ _ _ => pts_nil) (fun _ _ _ _ _ => pe_int))
      (pss_cons (ps_for PassesOwn.never rfl (pi_enumK K rfl (by rfl) T.m_enumerate (pa_cons (pv 2) pa_nil)) (pg_tupK (n := 2) K rfl (by rfl) (pgs_cons (pg_name (i := 4) sc_parted.nd rfl (Or.inl rfl)) (pgs_cons (pg_name (i := 5) sc_parted.nd rfl (Or.inl rfl)) pgs_nil)))
        (pss_one (ps_lock (ps_for PassesOwn.never rfl (pi_keys (pv 5)) (pg_name (i := 6) sc_parted.nd rfl (Or.inl rfl))
            (pss_one (ps_asg (pv 4) (pg_sub (pv 3) (pv 6) set_list)))))))
      (pss_cons (ps_set (i := 7) sc_parted.nd rfl (Or.inl rfl) (pe_call G_ways_back (hr.mono (by decide)) (by rfl) T.g_ways_back T.F_ways_back.kp T.b_ways_back .nil pass0 (pa_cons (pv 0) pa_nil)))
      (pss_cons (ps_set (i := 8) sc_parted.nd rfl (Or.inl rfl) pe_int)
      (pss_cons (ps_while PassesOwn.never (pt_cmpR op_lt (pv 8) (pe_callB (call_lenK K rfl) (by rfl) T.m_len (by decide +kernel) (pa_cons (pv 2) pa_nil)) (nomark _))
        (pss_cons (ps_set (i := 9) sc_parted.nd rfl (Or.inl rfl) (pe_callTy (call_list_dK rfl) (by rfl) T.m_list (by decide +kernel) (pa_cons (pe_ix (ix_listK K rfl) (pv 2) (pv 8) (fun _ _ => rfl)) pa_nil)))
          (pss_cons (ps_for PassesOwn.never rfl (pi_listK K rfl (pv 7)) (pg_name (i := 10) sc_parted.nd rfl (Or.inl rfl))
            (pss_cons (ps_set (i := 11) sc_parted.nd rfl (Or.inl rfl) (pe_call G_hits_of (hr.mono (by decide)) (by rfl) T.g_hits_of T.F_hits_of.kp T.b_hits_of .nil pass0 (pa_cons (pv 10) (pa_cons (pv 9) (pa_cons (pv 3) pa_nil)))))
              (pss_one (ps_lock (ps_for PassesOwn.never rfl (pi_keys (pv 11)) (pg_name (i := 12) sc_parted.nd rfl (Or.inl rfl))
                (pss_one (ps_expr (pe_call G_split_group (hr.mono (by decide)) (by rfl) T.g_split_group T.F_split_group.kp T.b_split_group .nil pass0 (pa_cons (pv 2) (pa_cons (pv 3) (pa_cons (pv 12) (pa_cons (pe_dget (hu_of hr) (pv 11) (pv 12) (fun _ _ => rfl)) pa_nil))))))))))))
          (pss_one (ps_aug (i := 8) sc_parted.nd rfl (Or.inl rfl) pe_int ip_add)))))
      (pss_one (ps_ret (pv 3))))))))), ?_⟩
    have kb := k.big
    have lT : ras.length = n := by
      rw [hT.2.1, k.num]
    -- groups
    refine ⟨.ref e, rfl, e, bs, rfl, he, by omega, fun H1 gr as0 gs0 sm1 fgr fas hG0 pre => ?_⟩
    -- homes
    refine ⟨.ref tb, rfl, tb, rfl, ⟨_, .inl (.inl (sm1 _ _ hT.1))⟩, fun ho nho => ?_⟩
    have fho : H ho = none := sm1.free nho
    have ngh : gr ≠ ho := ne_of_none hG0.1 nho
    refine lc_it (walk_list (K := K) (a := tb) (xs := vr ras)) (fun i H' => H' = upd H1 ho (.lst (vi (List.replicate i 0)))) rfl (fun i H' _ hW => ?_) (fun i x H2 H2' hi hW hY => ?_) (fun H2 hW => ?_)
    · rw [hW]
      exact .inl (.inl (same_new nho _ _ (sm1 _ _ hT.1)))
    · obtain ⟨rfl, hx⟩ := hY
      subst hW
      refine ⟨rfl, lcyes ⟨_, upd_same, ?_, ?_⟩⟩
      · rw [List.length_map, List.length_replicate]
        rw [List.length_map] at hi
        exact Nat.lt_of_le_of_lt (show i ≤ 1000000 by omega) (by decide)
      · rw [upd_upd, List.replicate_succ', ← vi_snoc]
        rfl
    · subst hW
      rw [List.length_map, lT]
      have sm2 : Same H (upd H1 ho (.lst (vi (List.replicate n 0)))) := sm1.trans (same_new nho)
      have hG2 : GrpAt (upd H1 ho (.lst (vi (List.replicate n 0)))) gr as0 gs0 := ⟨same_new nho _ _ hG0.1, hG0.2.1, hG0.2.2.1, fun i a g x y => same_new nho _ _ (hG0.2.2.2 i a g x y)⟩
      have hh2 : (upd H1 ho (.lst (vi (List.replicate n 0)))) ho = some (.lst (vi (List.replicate n 0))) := upd_same
      generalize upd H1 ho (.lst (vi (List.replicate n 0))) = H2 at sm2 hG2 hh2
      -- for number, members in enumerate(groups)
      refine ⟨.ref gr, rfl, gr, _, rfl, .inl (.inl hG2.1), ?_⟩
      refine for_it (walk_enum (K := K) (a := gr) (xs := vr as0)) (fun i σ H' => (∃ hl, H' ho = some (.lst (vi hl)) ∧ hl.length = n ∧ (∀ (s h : Nat) (g : List Nat), h < i → gs0[h]? = some g → s ∈ g → hl[s]? = some h) ∧ Off ho H2 H') ∧ ∃ y4 y5 y6, σ = [some (.ref tb), some (.ref e), some (.ref gr), some (.ref ho), y4, y5, y6, none, none, none, none, none, none, none]) ⟨⟨_, hh2, List.length_replicate, fun s h g z => absurd z (Nat.not_lt_zero h), Off.refl _ _⟩, none, none, none, rfl⟩ (fun i σ H' _ hW => ?_) (fun i x σ H3 H3' hi hW hY => ?_) (fun σ H3 hW => ?_)
      · obtain ⟨⟨hl, _, _, _, of⟩, _⟩ := hW
        exact .inl (.inl (of _ _ ngh hG2.1))
      · obtain ⟨⟨hl, w1, w2, w3, of⟩, y4, y5, y6, rfl⟩ := hW
        obtain ⟨T1, v1, v2, rfl, nT1, rfl, e1, e2⟩ := hY
        cases e1
        rw [List.length_map] at hi
        have hig : i < gs0.length := by
          rw [← hG2.2.2.1]
          exact hi
        have ea : (vr as0)[i]? = some (.ref as0[i]) := by
          rw [List.getElem?_map, List.getElem?_eq_getElem hi]
          rfl
        have e2 := ea.symm.trans e2
        cases e2
        have ha2 := hG2.2.2.2 i _ _ (List.getElem?_eq_getElem hi) (List.getElem?_eq_getElem hig)
        have hg0 : gs0[i]? = some gs0[i] := List.getElem?_eq_getElem hig
        generalize gs0[i] = g at ha2 hg0
        generalize as0[i] = a at ha2
        have nah : a ≠ ho := ne_of ha2 hh2 (by intro z; cases z)
        have prg := pre.same g (List.mem_of_getElem? hg0)
        have T1h : ho ≠ T1 := ne_of_none w1 nT1
        refine ⟨T1, [.int (i : Int), .ref a], rfl, .inl (.inl upd_same), rfl, .int (i : Int), [.ref a], rfl, .ref a, [], rfl, rfl, ?_⟩
        have of3 : Off ho H2 (upd H3 T1 (.tup [.int (i : Int), .ref a])) := of.trans (Off.new nT1)
        have w1' : (upd H3 T1 (.tup [.int (i : Int), .ref a])) ho = some (.lst (vi hl)) := same_new nT1 _ _ w1
        generalize upd H3 T1 (.tup [.int (i : Int), .ref a]) = H4 at of3 w1'
        have ha4 := of3 _ _ nah ha2
        -- for state in members
        refine ⟨a, .dK (dk g), ha4, trivial, fun od => ?_⟩
        refine ⟨.ref a, rfl, a, od, rfl, .inl ⟨dk g, upd_same, ?_⟩⟩
        refine for_it walk_keys (fun j σ H' => (∃ hl, H' ho = some (.lst (vi hl)) ∧ hl.length = n ∧ (∀ (s h : Nat) (g : List Nat), h < i → gs0[h]? = some g → s ∈ g → hl[s]? = some h) ∧ (∀ s ∈ g.take j, hl[s]? = some i) ∧ ∀ b, b ≠ ho → H' b = upd H4 a (.frz od (.dK (dk g))) b) ∧ ∃ y6, σ = [some (.ref tb), some (.ref e), some (.ref gr), some (.ref ho), some (.int (i : Int)), some (.ref a), y6, none, none, none, none, none, none, none]) ⟨⟨hl, by rw [upd_ne (Ne.symm nah)]; exact w1', w2, w3, (fun _ h => nomatch h), fun _ _ => rfl⟩, y6, rfl⟩ (fun j σ H' _ hW => ?_) (fun j x σ H5 H5' hj hW hY => ?_) (fun σ H5 hW => ?_)
        · obtain ⟨⟨hl, _, _, _, _, z⟩, _⟩ := hW
          rw [z a nah, upd_same]
        · obtain ⟨⟨hl, x1, x2, x3, x4, x5⟩, y6, rfl⟩ := hW
          obtain ⟨rfl, kk, v, hkv, rfl⟩ := hY
          obtain ⟨s2, hs2, rfl, rfl⟩ := dk_get hkv
          have hs2m := List.mem_of_getElem? hs2
          have hs2l : s2 < hl.length := by
            have := (prg s2 hs2m).1
            omega
          refine ⟨.int (i : Int), rfl, .ref ho, rfl, .int (s2 : Int), rfl, ho, _, (s2 : Int), s2, rfl, rfl, x1, ixN_nat (by rw [List.length_map]; exact hs2l), ⟨hl.set s2 i, ?_, ?_, fun s h g' lt hg' hm => ?_, fun s hs => ?_, fun b hb => ?_⟩, _, rfl⟩
          · rw [upd_same, vi_set]
          · rw [List.length_set]
            exact x2
          · have : s2 ≠ s := fun z => by
              subst z
              have := pre.disj h i g' g s2 hg' hg0 hm hs2m
              omega
            rw [List.getElem?_set_ne this]
            exact x3 s h g' lt hg' hm
          · rw [take_snoc hs2] at hs
            by_cases z : s2 = s
            · subst z
              rw [List.getElem?_set_self hs2l]
            · rw [List.getElem?_set_ne z]
              rcases List.mem_append.mp hs with y | y
              · exact x4 s y
              · exact absurd (List.mem_singleton.mp y).symm z
          · rw [upd_ne hb]
            exact x5 b hb
        · obtain ⟨⟨hl, x1, x2, x3, x4, x5⟩, y6, rfl⟩ := hW
          have etg : g.take (dk g).length = g := List.take_of_length_le (by rw [List.length_map]; exact Nat.le_refl _)
          rw [etg] at x4
          refine ⟨by rw [x5 a nah, upd_same], ⟨hl, ?_, x2, fun s h g' lt hg' hm => ?_, fun b o hb eb => ?_⟩, _, _, _, rfl⟩
          · rw [upd_ne (Ne.symm nah)]
            exact x1
          · by_cases z : h < i
            · exact x3 s h g' z hg' hm
            · have : h = i := by omega
              subst this
              rw [hg0] at hg'
              cases hg'
              exact x4 s hm
          · by_cases z : b = a
            · subst z
              rw [upd_same]
              rw [ha2] at eb
              exact eb
            · rw [upd_ne z, x5 b hb, upd_ne z]
              exact of3 b o hb eb
      · obtain ⟨⟨hl, w1, w2, w3, of⟩, y4, y5, y6, rfl⟩ := hW
        rw [List.length_map, hG2.2.2.1] at w3
        have pinv : PInv rows bs n L 0 gs0 hl := PInv.start pre hbs w2 fun s h g hg hm => w3 s h g (List.getElem?_eq_some_iff.mp hg).1 hg hm
        have sm3 : Same H H3 := fun b o eb => of b o (ne_of_none eb fho) (sm2 b o eb)
        have hG3 : GrpAt H3 gr as0 gs0 := ⟨of _ _ ngh hG2.1, hG2.2.1, hG2.2.2.1, fun i a g x y => by
          have := hG2.2.2.2 i a g x y
          exact of _ _ (ne_of this hh2 (by intro z; cases z)) this⟩
        -- backs
        refine ⟨.ref tb, rfl, tb, ras, rows, n, L, rfl, hT.same sm3, k, fun H4 bk cs bss sm4 fbk fcs fbs lcs hbk => ?_⟩
        have nB : ∀ b, b = bk ∨ b ∈ cs ∨ b ∈ bss.flatten → b ≠ gr ∧ b ≠ ho := fun b hb => by
          have : H3 b = none := by
            rcases hb with rfl | hb | hb
            · exact fbk
            · exact fcs b hb
            · exact fbs b hb
          exact ⟨Ne.symm (ne_of_none hG3.1 this), Ne.symm (ne_of_none w1 this)⟩
        have hG4 : GrpAt H4 gr as0 gs0 := ⟨sm4 _ _ hG3.1, hG3.2.1, hG3.2.2.1, fun i a g x y => sm4 _ _ (hG3.2.2.2 i a g x y)⟩
        -- while
        refine ⟨fun m σ H' => ∃ (a : Nat) (as : List Addr) (gs : List (List Nat)) (hl : List Nat) (y4 y5 y6 y9 y10 y11 y12 : Option V), m + a = n + 1 ∧ σ = [some (.ref tb), some (.ref e), some (.ref gr), some (.ref ho), y4, y5, y6, some (.ref bk), some (.int (a : Int)), y9, y10, y11, y12, none] ∧ Same H H' ∧ GrpAt H' gr as gs ∧ H' ho = some (.lst (vi hl)) ∧ BK H' bk cs bss n (bkF rows n) ∧ PInv rows bs n L a gs hl ∧ (∀ x ∈ as, H x = none),
          ⟨n + 1, 0, as0, gs0, hl, y4, y5, y6, none, none, none, none, rfl, rfl, sm3.trans sm4, hG4, sm4 _ _ w1, hbk, pinv, fas⟩, fun m σ H5 hW => ?_⟩
        obtain ⟨a, as, gs, hl, y4, y5, y6, y9, y10, y11, y12, em, rfl, sm5, hG5, hh5, hbk5, p5, f5⟩ := hW
        refine ⟨.int (a : Int), rfl, .ref gr, rfl, gr, _, rfl, .inl (.inl (.inl hG5.1)), _, _, rfl, rfl, _, rfl, ite2 (fun z => ?_) (fun z => ?_)⟩
        · have hag : a < gs.length := by
            have := of_decide_eq_true z
            rw [List.length_map, hG5.2.2.1] at this
            omega
          have hags : a < as.length := by
            rw [hG5.2.2.1]
            exact hag
          have hgn := p5.part.many
          refine ⟨fun σ' H' => ∃ (as : List Addr) (gs : List (List Nat)) (hl : List Nat) (y4 y5 y6 y9 y10 y11 y12 : Option V), σ' = [some (.ref tb), some (.ref e), some (.ref gr), some (.ref ho), y4, y5, y6, some (.ref bk), some (.int ((a + 1 : Nat) : Int)), y9, y10, y11, y12, none] ∧ Same H H' ∧ GrpAt H' gr as gs ∧ H' ho = some (.lst (vi hl)) ∧ BK H' bk cs bss n (bkF rows n) ∧ PInv rows bs n L (a + 1) gs hl ∧ (∀ x ∈ as, H x = none), fun σ' H' hN => ?_, ?_⟩
          · obtain ⟨as, gs, hl, y4, y5, y6, y9, y10, y11, y12, r1, r2, r3, r4, r5, r6, r7⟩ := hN
            exact ⟨m - 1, by omega, a + 1, as, gs, hl, y4, y5, y6, y9, y10, y11, y12, by omega, r1, r2, r3, r4, r5, r6, r7⟩
          -- targets
          have va : (vr as)[a]? = some (.ref as[a]) := by
            rw [List.getElem?_map, List.getElem?_eq_getElem hags]
            rfl
          have ha5 := hG5.2.2.2 a _ _ (List.getElem?_eq_getElem hags) (List.getElem?_eq_getElem hag)
          have hga : gs[a]? = some gs[a] := List.getElem?_eq_getElem hag
          generalize gs[a] = g at ha5 hga
          have hgm : ∀ s ∈ g, s < n := fun s hs => by
            have := (List.getElem?_eq_some_iff.mp ((p5.part.mem a g hga s).mp hs)).1
            rw [p5.part.len] at this
            exact this
          have ndg : g.Nodup := p5.part.nd g (List.mem_of_getElem? hga)
          refine ⟨.ref gr, rfl, .int (a : Int), rfl, gr, _, (a : Int), .ref as[a], rfl, rfl, .inl (.inl hG5.1), atI_nat va, as[a], dk g, rfl, ha5, fun tg ntg => ?_⟩
          rw [keys_dk]
          have ftg : H tg = none := sm5.free ntg
          have tgg : tg ≠ gr := Ne.symm (ne_of_none hG5.1 ntg)
          have tgh : tg ≠ ho := Ne.symm (ne_of_none hh5 ntg)
          have linv0 : LInv rows bs n L gs.length hl g 0 gs hl := ⟨p5.part, p5.co, Ref.refl _ _ _, fun s t c _ _ _ lc => absurd lc (Nat.not_lt_zero c), Nat.le_refl _⟩
          -- for back in backs
          refine ⟨.ref bk, rfl, bk, rfl, ⟨_, .inl (.inl (same_new ntg _ _ hbk5.top))⟩, ?_⟩
          refine for_it (walk_list (K := K) (a := bk) (xs := vr cs)) (fun c σ H' => (∃ as gs' hl', Same H H' ∧ GrpAt H' gr as gs' ∧ H' ho = some (.lst (vi hl')) ∧ BK H' bk cs bss n (bkF rows n) ∧ LInv rows bs n L gs.length hl g c gs' hl' ∧ (∀ x ∈ as, H x = none) ∧ H' tg = some (.lst (vi g))) ∧ ∃ y10 y11 y12, σ = [some (.ref tb), some (.ref e), some (.ref gr), some (.ref ho), y4, y5, y6, some (.ref bk), some (.int (a : Int)), some (.ref tg), y10, y11, y12, none]) ⟨⟨as, gs, hl, sm5.trans (same_new ntg), ⟨same_new ntg _ _ hG5.1, hG5.2.1, hG5.2.2.1, fun i a g x y => same_new ntg _ _ (hG5.2.2.2 i a g x y)⟩, same_new ntg _ _ hh5, hbk5.same (same_new ntg), linv0, f5, upd_same⟩, y10, y11, y12, rfl⟩ (fun c σ H' _ hW => ?_) (fun c x σ H6 H6' hc hW hY => ?_) (fun σ H6 hW => ?_)
          · obtain ⟨⟨as, gs', hl', _, _, _, b6, _⟩, _⟩ := hW
            exact .inl (.inl b6.top)
          · obtain ⟨⟨as, gs', hl', sm6, hG6, hh6, hbk6, l6, f6, ht6⟩, y10, y11, y12, rfl⟩ := hW
            obtain ⟨rfl, hx⟩ := hY
            rw [List.length_map] at hc
            have hcL : c < L := by omega
            have ec : (vr cs)[c]? = some (.ref cs[c]) := by
              rw [List.getElem?_map, List.getElem?_eq_getElem hc]
              rfl
            rw [ec] at hx
            cases hx
            obtain ⟨bs', hlol⟩ := hbk6.lol (List.getElem?_eq_getElem hc)
            have hF := flat_mem k hcL hgm
            have ndF := flat_nd (rows := rows) (c := c) ndg hgm
            have lF : (flat ((List.range n).map (bkF rows n c)) g).length ≤ n := by
              have := len_le_of_sub (ys := List.range n) ndF fun x hx => List.mem_range.mpr ((hF x).mp hx).1
              rw [List.length_range] at this
              exact this
            -- hits
            refine ⟨.ref cs[c], rfl, .ref tg, rfl, .ref ho, rfl, cs[c], tg, ho, bs', (List.range n).map (bkF rows n c), g, hl', rfl, hlol, ht6, hh6, fun t ht => by rw [List.length_map, List.length_range]; exact hgm t ht, fun s hs => by rw [l6.part.len]; exact ((hF s).mp hs).1, by omega, fun H7 hd es sm7 fhd ehd ok fes => ?_⟩
            have fhdH : H hd = none := sm6.free fhd
            have hG7 : GrpAt H7 gr as gs' := ⟨sm7 _ _ hG6.1, hG6.2.1, hG6.2.2.1, fun i a g x y => sm7 _ _ (hG6.2.2.2 i a g x y)⟩
            have nE : ∀ e ∈ es, e.2.1 ≠ gr ∧ e.2.1 ≠ ho := fun e he => ⟨Ne.symm (ne_of_none hG6.1 (fes e he)), Ne.symm (ne_of_none hh6 (fes e he))⟩
            have nhd : hd ≠ gr ∧ hd ≠ ho := ⟨Ne.symm (ne_of_none hG6.1 fhd), Ne.symm (ne_of_none hh6 fhd)⟩
            have cl : ∀ s t, s < n → t < n → Eqv rows bs L s t → (s ∈ flat ((List.range n).map (bkF rows n c)) g ↔ t ∈ flat ((List.range n).map (bkF rows n c)) g) := fun s t hs ht ev => by
              rw [hF s, hF t, p5.part.mem a g hga, p5.part.mem a g hga, p5.co _ _ (k.dl_lt hs hcL) (k.dl_lt ht hcL) (ev.step hcL)]
              exact ⟨fun z => ⟨ht, z.2⟩, fun z => ⟨hs, z.2⟩⟩
            -- for home in hits
            refine ⟨hd, .dK (ek es), ehd, trivial, fun od => ?_⟩
            refine ⟨.ref hd, rfl, hd, od, rfl, .inl ⟨ek es, upd_same, ?_⟩⟩
            have up : ∀ b o, b ≠ hd → H7 b = some o → upd H7 hd (.frz od (.dK (ek es))) b = some o := fun b o nb eb => by
              rw [upd_ne nb]
              exact eb
            have lstne : ∀ b xs, H7 b = some (.lst xs) → b ≠ hd := fun b xs eb => ne_of eb ehd (by intro z; cases z)
            have h0 : HInv rows bs n L gs'.length hl' (flat ((List.range n).map (bkF rows n c)) g) es 0 gs' hl' := ⟨l6.part, l6.co, Ref.refl _ _ _, fun s h hs _ => hs, fun s t _ _ _ z => by
              obtain ⟨i, _, lt, _⟩ := z
              exact absurd lt (Nat.not_lt_zero i), Nat.le_refl _⟩
            refine for_it walk_keys (fun j σ H' => (∃ as2 gs2 hl2, Same H H' ∧ GrpAt H' gr as2 gs2 ∧ H' ho = some (.lst (vi hl2)) ∧ BK H' bk cs bss n (bkF rows n) ∧ (∀ x ∈ as2, H x = none) ∧ H' tg = some (.lst (vi g)) ∧ H' hd = some (.frz od (.dK (ek es))) ∧ (∀ e ∈ es, H' e.2.1 = some (.lst (vi e.2.2))) ∧ HInv rows bs n L gs'.length hl' (flat ((List.range n).map (bkF rows n c)) g) es j gs2 hl2) ∧ ∃ y12, σ = [some (.ref tb), some (.ref e), some (.ref gr), some (.ref ho), y4, y5, y6, some (.ref bk), some (.int (a : Int)), some (.ref tg), some (.ref cs[c]), some (.ref hd), y12, none])
              ⟨⟨as, gs', hl', ?_, ⟨?_, hG7.2.1, hG7.2.2.1, fun i x g' hx hg' => ?_⟩, ?_, ?_, f6, ?_, upd_same, fun e' he' => ?_, h0⟩, y12, rfl⟩ (fun j σ H' _ hW => ?_) (fun j x σ H8 H8' hj hW hY => ?_) (fun σ H8 hW => ?_)
            · intro b o eb
              exact up b o (ne_of_none eb fhdH) (sm7 _ _ (sm6 _ _ eb))
            · exact up _ _ (lstne _ _ hG7.1) hG7.1
            · have := hG7.2.2.2 i x g' hx hg'
              refine up _ _ (fun z => ?_) this
              have h1 := f6 x (List.mem_of_getElem? hx)
              have h2 := hG6.2.2.2 i x g' hx hg'
              rw [z, fhd] at h2
              cases h2
            · exact up _ _ (lstne _ _ (sm7 _ _ hh6)) (sm7 _ _ hh6)
            · have hbk7 := hbk6.same sm7
              exact ⟨up _ _ (lstne _ _ hbk7.top) hbk7.top, hbk7.len, fun c' a' bs2 x' y' => by
                obtain ⟨z1, z2⟩ := hbk7.col c' a' bs2 x' y'
                exact ⟨up _ _ (lstne _ _ z1) z1, z2⟩, fun c' t' bs2 b' x' y' => by
                have z1 := hbk7.cell c' t' bs2 b' x' y'
                exact up _ _ (lstne _ _ z1) z1, hbk7.nd⟩
            · exact up _ _ (lstne _ _ (sm7 _ _ ht6)) (sm7 _ _ ht6)
            · exact up _ _ (lstne _ _ (ok.at_ e' he')) (ok.at_ e' he')
            · obtain ⟨⟨as2, gs2, hl2, _, _, _, _, _, _, z, _⟩, _⟩ := hW
              exact z
            · obtain ⟨⟨as2, gs2, hl2, sm8, hG8, hh8, hbk8, f8, ht8, hd8, he8, hi8⟩, y12, rfl⟩ := hW
              obtain ⟨rfl, kk, v, hkv, rfl⟩ := hY
              obtain ⟨en, hen, rfl, rfl⟩ := ek_get hkv
              have henm := List.mem_of_getElem? hen
              have hxe := ok.eq en henm
              have vh : valV (ek es) (Sum.inl (en.1 : Int) : Key) = some (.ref en.2.1) := by
                rw [valV_ek, find_nd ok.nd hen]
                rfl
              have keyne : ∀ (i : Nat) (e' : Ent), i < j → es[i]? = some e' → e'.1 ≠ en.1 := fun i e' hi hi' z => by
                have a1 : (es.map (·.1))[i]? = some e'.1 := by rw [List.getElem?_map, hi']; rfl
                have b1 : (es.map (·.1))[j]? = some e'.1 := by rw [List.getElem?_map, hen, z]; rfl
                have := nd_ix ok.nd a1 b1
                omega
              -- split_group(groups, homes, home, hits[home])
              refine ⟨.ref gr, rfl, .ref ho, rfl, .int (en.1 : Int), rfl, .ref hd, rfl, .int (en.1 : Int), rfl, hd, .ref en.2.1, rfl, .inl ⟨ek es, Sum.inl (en.1 : Int), .inr ⟨od, hd8⟩, rfl, vh.symm⟩, gr, ho, en.2.1, en.1, n, as2, gs2, hl2, en.2.2, rfl, hG8, hh8, he8 en henm, ngh, (nE en henm).1, (nE en henm).2, hi8.part, kb, ?_, ok.ne en henm, fun s hs => ?_, fun H9 as3 gs3 hl3 hG9 hh9 sp off ins => ?_⟩
              · rw [hxe]
                exact ndF.filter _
              · rw [hxe] at hs
                exact hi8.kept s _ (of_decide_eq_true (List.mem_filter.mp hs).2) fun i e' hi hi' => keyne i e' hi hi'
              · have keep : ∀ b o, b ≠ gr → b ≠ ho → H8' b = some o → (∀ g', o ≠ .dK (dk g')) → H9 b = some o := fun b o h1 h2 h3 h4 => off b o h1 h2 (hG8.not h3 h4) h3
                refine ⟨⟨as3, gs3, hl3, fun b o eb => ?_, hG9, hh9, hbk8.off hG8 nB off, fun x hx => ?_, keep _ _ tgg tgh ht8 (by intro g' z; cases z), keep _ _ nhd.1 nhd.2 hd8 (by intro g' z; cases z), fun e' he' => keep _ _ (nE e' he').1 (nE e' he').2 (he8 e' he') (by intro g' z; cases z), hi8.step hen ok.nd hxe cl sp⟩, _, rfl⟩
                · refine off b o (ne_of_none eb fgr) (ne_of_none eb fho) (fun z => ?_) (sm8 _ _ eb)
                  rw [f8 b z] at eb
                  cases eb
                · rcases ins x hx with y | y
                  · exact f8 x y
                  · exact sm8.free y
            · obtain ⟨⟨as2, gs2, hl2, sm8, hG8, hh8, hbk8, f8, ht8, hd8, he8, hi8⟩, y12, rfl⟩ := hW
              rw [List.length_map] at hi8
              have l7 := HInv.last l6 hi8 hF ok.all
              have up2 : ∀ b o, b ≠ hd → H8 b = some o → upd H8 hd (.dK (ek es)) b = some o := fun b o nb eb => by
                rw [upd_ne nb]
                exact eb
              have lst2 : ∀ b xs, H8 b = some (.lst xs) → b ≠ hd := fun b xs eb => ne_of eb hd8 (by intro z; cases z)
              refine ⟨hd8, ⟨as2, gs2, hl2, fun b o eb => up2 b o (ne_of_none eb fhdH) (sm8 _ _ eb), ⟨up2 _ _ (lst2 _ _ hG8.1) hG8.1, hG8.2.1, hG8.2.2.1, fun i x g' hx hg' => ?_⟩, up2 _ _ (lst2 _ _ hh8) hh8, ?_, l7, f8, up2 _ _ (lst2 _ _ ht8) ht8⟩, _, _, _, rfl⟩
              · have := hG8.2.2.2 i x g' hx hg'
                exact up2 _ _ (ne_of this hd8 (by intro z; cases z)) this
              · exact ⟨up2 _ _ (lst2 _ _ hbk8.top) hbk8.top, hbk8.len, fun c' a' bs2 x' y' => by
                  obtain ⟨z1, z2⟩ := hbk8.col c' a' bs2 x' y'
                  exact ⟨up2 _ _ (lst2 _ _ z1) z1, z2⟩, fun c' t' bs2 b' x' y' => by
                  have z1 := hbk8.cell c' t' bs2 b' x' y'
                  exact up2 _ _ (lst2 _ _ z1) z1, hbk8.nd⟩
          · obtain ⟨⟨as, gs', hl', sm6, hG6, hh6, hbk6, l6, f6, ht6⟩, y10, y11, y12, rfl⟩ := hW
            rw [List.length_map, lcs] at l6
            refine ⟨_, rfl, _, _, rfl, rfl, as, gs', hl', y4, y5, y6, _, y10, y11, y12, rfl, sm6, hG6, hh6, hbk6, LInv.last p5 hga l6, f6⟩
        · have hag : gs.length ≤ a := by
            have : ¬ ((a : Int) < ((vr as).length : Nat)) := fun y => z (decide_eq_true y)
            rw [List.length_map, hG5.2.2.1] at this
            omega
          exact ⟨.ref ho, rfl, q H5 ho hl sm5 fho hh5 p5.part.len (p5.last k hag)⟩
end
end LH

namespace LH
open PySem PySem.Spec PyProof.Rows L2
/-! ### merged: one state for each home -/
def isHead (hl : List Nat) (s : Nat) : Bool := (List.range s).all fun t => decide (hl[t]? ≠ hl[s]?)
def headsOf (hl : List Nat) (i : Nat) : List Nat := (List.range i).filter (isHead hl)
/-- the number of a state's home: how many heads stand ahead of its own -/
def numOf (hl : List Nat) (s : Nat) : Nat := (headsOf hl hl.length).findIdx fun h => decide (hl[h]? = hl[s]?)
theorem isHead_iff {hl : List Nat} {s : Nat} : isHead hl s = true ↔ ∀ t, t < s → hl[t]? ≠ hl[s]? := by
  unfold isHead
  rw [List.all_eq_true]
  exact ⟨fun h t ht => of_decide_eq_true (h t (List.mem_range.mpr ht)), fun h t ht => decide_eq_true (h t (List.mem_range.mp ht))⟩
theorem heads_mem {hl : List Nat} {i s : Nat} : s ∈ headsOf hl i ↔ s < i ∧ ∀ t, t < s → hl[t]? ≠ hl[s]? := by
  unfold headsOf
  rw [List.mem_filter, List.mem_range, isHead_iff]
theorem heads_succ (hl : List Nat) (i : Nat) : headsOf hl (i + 1) = if isHead hl i = true then headsOf hl i ++ [i] else headsOf hl i := by
  unfold headsOf
  rw [List.range_succ, List.filter_append]
  by_cases e : isHead hl i = true
  · rw [if_pos e]
    simp [e]
  · rw [if_neg e]
    simp [e]
theorem heads_rise (hl : List Nat) (i : Nat) : (headsOf hl i).Pairwise (· < ·) := List.Pairwise.filter _ List.pairwise_lt_range
/-- every state has its head -/
theorem head_ex (hl : List Nat) : ∀ (s i : Nat), s < i → ∃ h ∈ headsOf hl i, h ≤ s ∧ hl[h]? = hl[s]? := by
  intro s
  induction s using Nat.strongRecOn with
  | ind s ih =>
    intro i hi
    by_cases e : ∀ t, t < s → hl[t]? ≠ hl[s]?
    · exact ⟨s, heads_mem.mpr ⟨hi, e⟩, Nat.le_refl _, rfl⟩
    · obtain ⟨t, ht, q⟩ : ∃ t, t < s ∧ hl[t]? = hl[s]? := by
        by_cases z : ∃ t, t < s ∧ hl[t]? = hl[s]?
        · exact z
        · exact absurd (fun t ht q => z ⟨t, ht, q⟩) e
      obtain ⟨h, hh, le, q'⟩ := ih t ht i (by omega)
      exact ⟨h, hh, by omega, q'.trans q⟩
theorem head_uniq {hl : List Nat} {i h h' : Nat} (a : h ∈ headsOf hl i) (b : h' ∈ headsOf hl i) (e : hl[h]? = hl[h']?) : h = h' := by
  obtain ⟨_, a2⟩ := heads_mem.mp a
  obtain ⟨_, b2⟩ := heads_mem.mp b
  rcases Nat.lt_trichotomy h h' with z | z | z
  · exact absurd e (b2 h z)
  · exact z
  · exact absurd e.symm (a2 h' z)
theorem num_spec {hl : List Nat} {s : Nat} (hs : s < hl.length) : ∃ h, (headsOf hl hl.length)[numOf hl s]? = some h ∧ h ≤ s ∧ hl[h]? = hl[s]? := by
  obtain ⟨h, hh, le, q⟩ := head_ex hl s hl.length hs
  have hex : ∃ x ∈ headsOf hl hl.length, decide (hl[x]? = hl[s]?) = true := ⟨h, hh, decide_eq_true q⟩
  have hlt := List.findIdx_lt_length_of_exists hex
  have hp := List.findIdx_getElem (w := hlt)
  have hp := of_decide_eq_true hp
  refine ⟨_, List.getElem?_eq_getElem hlt, ?_, hp⟩
  have := head_uniq (List.getElem_mem hlt) hh (hp.trans q.symm)
  rw [this]
  exact le
theorem num_of_head {hl : List Nat} {k h : Nat} (hk : (headsOf hl hl.length)[k]? = some h) : numOf hl h = k := by
  have hm := List.mem_of_getElem? hk
  obtain ⟨h', e1, _, e2⟩ := num_spec (heads_mem.mp hm).1
  have := head_uniq (List.mem_of_getElem? e1) hm e2
  subst this
  have nd : (headsOf hl hl.length).Nodup := (heads_rise hl hl.length).imp fun h => Nat.ne_of_lt h
  exact nd_ix nd e1 hk
theorem num_eq {hl : List Nat} {s t : Nat} (hs : s < hl.length) (ht : t < hl.length) : numOf hl s = numOf hl t ↔ hl[s]? = hl[t]? := by
  constructor
  · intro e
    obtain ⟨h, a1, _, a2⟩ := num_spec hs
    obtain ⟨h', b1, _, b2⟩ := num_spec ht
    rw [e] at a1
    rw [a1] at b1
    cases b1
    exact a2.symm.trans b2
  · intro e
    unfold numOf
    rw [e]
def mRows (rows : List (List Nat)) (hl : List Nat) : List (List Nat) := (headsOf hl hl.length).map fun h => (rows.getD h []).map (numOf hl)
def mEnds (bs : List Bool) (hl : List Nat) : List Nat := (List.range (headsOf hl hl.length).length).filter fun k => decide (bs[(headsOf hl hl.length).getD k 0]? = some true)
abbrev nk (hs hl : List Nat) : List (Key × V) := hs.zipIdx.map fun (p : Nat × Nat) => (Sum.inl ((hl.getD p.1 0 : Nat) : Int), V.int (p.2 : Int))
theorem nk_snoc (hs hl : List Nat) (s : Nat) : nk (hs ++ [s]) hl = nk hs hl ++ [(Sum.inl ((hl.getD s 0 : Nat) : Int), V.int (hs.length : Int))] := by
  show List.map _ (hs ++ [s]).zipIdx = _
  rw [List.zipIdx_append, List.map_append]
  simp
theorem valV_nkk {hl : List Nat} (x : Nat) : ∀ (hs : List Nat) (k : Nat), valV ((hs.zipIdx k).map fun (p : Nat × Nat) => ((Sum.inl ((hl.getD p.1 0 : Nat) : Int) : Key), V.int (p.2 : Int))) (Sum.inl (x : Int) : Key) = if (hs.any fun h => decide (hl.getD h 0 = x)) = true then some (.int ((k + hs.findIdx fun h => decide (hl.getD h 0 = x) : Nat) : Int)) else none
  | [], _ => rfl
  | h :: r, k => by
    rw [List.zipIdx_cons, List.map_cons, List.any_cons, List.findIdx_cons]
    by_cases q : hl.getD h 0 = x
    · rw [valV_pos (by show (Sum.inl ((hl.getD h 0 : Nat) : Int) : Key) = _; rw [q])]
      simp only [q, decide_true, Bool.true_or, if_true, cond_true, Nat.add_zero]
    · have ne : ¬ (((h, k) : Nat × Nat) |> fun p => ((Sum.inl ((hl.getD p.1 0 : Nat) : Int) : Key), V.int (p.2 : Int))).1 = (Sum.inl (x : Int) : Key) := fun z => q (by
        have z1 : ((hl.getD h 0 : Nat) : Int) = (x : Int) := Sum.inl.inj z
        exact Int.ofNat.inj z1)
      rw [valV_neg ne, valV_nkk x r (k + 1)]
      simp only [q, decide_false, Bool.false_or, cond_false]
      by_cases e : (r.any fun h => decide (hl.getD h 0 = x)) = true
      · rw [if_pos e, if_pos e]
        congr 2
        omega
      · rw [if_neg e, if_neg e]
theorem valV_nk {hl : List Nat} (x : Nat) (hs : List Nat) : valV (nk hs hl) (Sum.inl (x : Int) : Key) = if (hs.any fun h => decide (hl.getD h 0 = x)) = true then some (.int ((hs.findIdx fun h => decide (hl.getD h 0 = x) : Nat) : Int)) else none := by
  have := valV_nkk (hl := hl) x hs 0
  rw [Nat.zero_add] at this
  exact this
end LH

namespace LH
open PySem PySem.Spec PyProof.Rows L2
theorem findIdx_congr' {α : Type} {p q : α → Bool} : ∀ {xs : List α}, (∀ x ∈ xs, p x = q x) → xs.findIdx p = xs.findIdx q
  | [], _ => rfl
  | x :: r, h => by
    rw [List.findIdx_cons, List.findIdx_cons, h x (List.mem_cons_self ..), findIdx_congr' fun y hy => h y (List.mem_cons_of_mem _ hy)]
theorem getD_iff {hl : List Nat} {h x : Nat} (hh : h < hl.length) : hl.getD h 0 = x ↔ hl[h]? = some x := by
  rw [List.getD_eq_getElem?_getD, List.getElem?_eq_getElem hh]
  simp
theorem heads_any {hl : List Nat} {i x : Nat} (hi : hl[i]? = some x) : ((headsOf hl i).any fun h => decide (hl.getD h 0 = x)) = !isHead hl i := by
  have hil := (List.getElem?_eq_some_iff.mp hi).1
  rw [Bool.eq_iff_iff, List.any_eq_true, Bool.not_eq_true', Bool.eq_false_iff]
  constructor
  · rintro ⟨h, hm, hd⟩ z
    have hm' := (heads_mem.mp hm).1
    exact isHead_iff.mp z h hm' (by rw [(getD_iff (by omega)).mp (of_decide_eq_true hd), hi])
  · intro z
    obtain ⟨t, ht, q⟩ : ∃ t, t < i ∧ hl[t]? = hl[i]? := by
      by_cases y : ∃ t, t < i ∧ hl[t]? = hl[i]?
      · exact y
      · exact absurd (isHead_iff.mpr fun t ht q => y ⟨t, ht, q⟩) z
    obtain ⟨h, hm, le, q'⟩ := head_ex hl t i ht
    refine ⟨h, hm, decide_eq_true ((getD_iff ?_).mpr ?_)⟩
    · have := (heads_mem.mp hm).1
      omega
    · rw [q', q, hi]
theorem num_find {hl : List Nat} {t x : Nat} (ht : hl[t]? = some x) : valV (nk (headsOf hl hl.length) hl) (Sum.inl (x : Int) : Key) = some (.int (numOf hl t : Nat)) := by
  have htl := (List.getElem?_eq_some_iff.mp ht).1
  have congr_ : ∀ h ∈ headsOf hl hl.length, decide (hl.getD h 0 = x) = decide (hl[h]? = hl[t]?) := fun h hm => by
    rw [ht]
    have := (heads_mem.mp hm).1
    rw [Bool.eq_iff_iff, decide_eq_true_iff, decide_eq_true_iff, getD_iff this]
  obtain ⟨h, hm, _, q⟩ := head_ex hl t hl.length htl
  rw [valV_nk, if_pos]
  · rw [findIdx_congr' congr_]
    rfl
  · exact List.any_eq_true.mpr ⟨h, hm, by rw [congr_ h hm]; exact decide_eq_true q⟩
theorem heads_len (hl : List Nat) (i : Nat) : (headsOf hl i).length ≤ i := by
  unfold headsOf
  refine Nat.le_trans (List.length_filter_le _ _) ?_
  rw [List.length_range]
  exact Nat.le_refl _
theorem nk_len (hs hl : List Nat) : (nk hs hl).length = hs.length := by
  show (List.map _ _).length = _
  rw [List.length_map, List.length_zipIdx]
section
variable {P : Program} {w : World} {K : PySem.W.Frag} {mg : Str → Option Value} {base : Heap}
def sp_merged : Sp := fun vs H Q _ => ∃ (z : Str) (tb e ho : Addr) (ras : List Addr) (rows : List (List Nat)) (bs : List Bool) (hl : List Nat) (n L : Nat), vs = [.str z, .ref tb, .ref e, .ref ho] ∧ LolAt H tb ras rows ∧ TabOk n L rows ∧ H e = some (.lst (bs.map V.bl)) ∧ bs.length = n ∧ H ho = some (.lst (vi hl)) ∧ hl.length = n ∧
  ∀ H' p, Same H H' → MachAt H' p ⟨z, mRows rows hl, mEnds bs hl⟩ → Q (.ref p) H'
theorem ok_merged (T : TX K mg) : FnOk P w K mg base CX0 1 T.a_merged T.fd_merged ["letters", "table", "ended", "homes"] sp_merged := by
  refine T.F_merged.ok sc_merged (fun vs H Q E h => ?_) (fun cdv A outer s H vs Q E hr h => ?_)
  · obtain ⟨z, tb, e, ho, ras, rows, bs, hl, n, L, rfl, _⟩ := h
    rfl
  · obtain ⟨z, tb, e, ho, ras, rows, bs, hl, n, L, rfl, hT, k, he, hbs, hho, hln, q⟩ := h
    refine ⟨_, (pss_cons (ps_set (i := 4) sc_merged.nd rfl (Or.inr rfl) pe_dnewK)
      (pss_cons (ps_set (i := 5) sc_merged.nd rfl (Or.inl rfl) (pe_lst pa_nil))
      (pss_cons (ps_for PassesOwn.never rfl (pi_enumK K rfl (by rfl) T.m_enumerate (pa_cons (pv 3) pa_nil)) (pg_tupK (n := 2) K rfl (by rfl) (pgs_cons (pg_name (i := 6) sc_merged.nd rfl (Or.inl rfl)) (pgs_cons (pg_name (i := 7) sc_merged.nd rfl (Or.inl rfl)) pgs_nil)))
        (pss_one (ps_if (pt_cmp (pc_dnotin (hu_of hr) (pv 7) (pv 4)))
            (pss_cons (ps_dput (hu_of hr) (pv 4) (pv 7) (pe_callB (call_lenK K rfl) (by rfl) T.m_len (by decide +kernel) (pa_cons (pv 5) pa_nil)) rfl)
              (pss_one (ps_expr (pe_bmK K rfl PySem.F.plainAttrs_list PySem.F.slot_list_append PySem.F.type_list_append mt_append (pv 5) (pa_cons (pv 6) pa_nil)))))
            pss_nil)))
      (pss_cons (ps_setLc (i := 8) (own := [("head", 10)]) (g := gName 10) (tt := tYes) (by rfl) sc_merged.nd rfl rfl (sw_true rfl rfl rfl (by decide +kernel)) (pi_listK K rfl (pv 5)) (blkOk_by (own := [("head", 10)]) (N := N_merged) (by kernel_rfl)) (fun _ _ _ _ _ => (pg_name (i := 10) sc_merged.nd rfl (by first | exact Or.inl rfl | exact Or.inr rfl))) (fun _ _ _ _ _ => pts_nil) (fun _ _ _ _ _ => (pe_callTy (call_tupleK K rfl) (by rfl) T.m_tuple (by decide +kernel) (pa_cons (pe_lc (own := [("target", 11)]) (g := gName 11) (tt := tYes) (by rfl) sc_merged.nd (pi_listK K rfl (pe_ix (ix_listK K rfl) (pv 1) (pv 10) (fun _ _ => rfl))) (blkOk_by (own := [("target", 11)]) (N := N_merged) (by kernel_rfl)) (fun _ _ _ _ _ => (pg_name (i := 11) sc_merged.nd rfl (by first | exact Or.inl rfl | exact Or.inr rfl))) (fun _ _ _ _ _ => pts_nil) (fun _ _ _ _ _ => (pe_dget (hu_of hr) (pv 4) (pe_ix (ix_listK K rfl) (pv 3) (pv 11) (fun _ _ => rfl)) (fun _ _ => rfl)))) pa_nil))))
      (pss_cons (ps_setLc (i := 9) (own := [("number", 12), ("head", 10)]) (by rfl) sc_merged.nd rfl rfl (sw_true rfl rfl rfl (by decide +kernel)) (pi_enumK K rfl (by rfl) T.m_enumerate (pa_cons (pv 5) pa_nil)) (blkOk_by (own := [("number", 12), ("head", 10)]) (N := N_merged) (by kernel_rfl)) (fun _ _ _ _ _ => (pg_tupK (n := 2) K rfl (by rfl) (pgs_cons (pg_name (i := 12) sc_merged.nd rfl (by first | exact Or.inl rfl | exact Or.inr rfl)) (pgs_cons (pg_name (i := 10) sc_merged.nd rfl (by first | exact Or.inl rfl | exact Or.inr rfl)) pgs_nil)))) (fun _ _ _ _ _ => (pts_one (pt_val (pe_ix (ix_listK K rfl) (pv 2) (pv 10) (fun _ _ => rfl))))) (fun _ _ _ _ _ => (pv 12)))
      (pss_one (ps_ret (pe_tup (pa_cons (pv 0) (pa_cons (pe_callTy (call_tupleK K rfl) (by rfl) T.m_tuple (by decide +kernel) (pa_cons (pv 8) pa_nil)) (pa_cons (pe_callTy (call_tupleK K rfl) (by rfl) T.m_tuple (by decide +kernel) (pa_cons (pv 9) pa_nil)) pa_nil))))))))))), ?_⟩
    have kb := k.big
    have sl : ∀ m, m ≤ 1000000 → m < sizeLine := fun m hm => Nat.lt_of_le_of_lt hm (by decide)
    -- numbers, heads
    refine fun nm nnm => ⟨by show 0 ≤ sizeLine; decide, fun hd nhd => ?_⟩
    have dnh : nm ≠ hd := ne_of_none upd_same nhd
    have fhd : H hd = none := by
      rw [upd_ne (Ne.symm dnh)] at nhd
      exact nhd
    have sm0 : Same H (upd (upd H nm (.dK [])) hd (.lst [])) := (same_new nnm).trans (same_new nhd)
    refine ⟨.ref ho, rfl, ho, _, rfl, .inl (.inl (sm0 _ _ hho)), ?_⟩
    refine for_it (walk_enum (K := K) (a := ho) (xs := vi hl)) (fun i σ H' => (Same H H' ∧ H' nm = some (.dK (nk (headsOf hl i) hl)) ∧ H' hd = some (.lst (vi (headsOf hl i)))) ∧ ∃ y6 y7, σ = [some (.str z), some (.ref tb), some (.ref e), some (.ref ho), some (.ref nm), some (.ref hd), y6, y7, none, none, none, none, none]) ⟨⟨sm0, by rw [upd_ne dnh, upd_same]; rfl, upd_same⟩, none, none, rfl⟩ (fun i σ H' _ hW => .inl (.inl (hW.1.1 _ _ hho))) (fun i x σ H1 H1' hi hW hY => ?_) (fun σ H1 hW => ?_)
    · obtain ⟨⟨sm, h1, h2⟩, y6, y7, rfl⟩ := hW
      obtain ⟨T1, v1, v2, rfl, nT1, rfl, e1, e2⟩ := hY
      cases e1
      obtain ⟨u, hu, rfl⟩ := int_at e2
      rw [List.length_map] at hi
      refine ⟨T1, [.int (i : Int), .int (u : Int)], rfl, .inl (.inl upd_same), rfl, .int (i : Int), [.int (u : Int)], rfl, .int (u : Int), [], rfl, rfl, ?_⟩
      have sm1 : Same H (upd H1 T1 (.tup [.int (i : Int), .int (u : Int)])) := sm.trans (same_new nT1)
      have g1 := same_new (o := .tup [.int (i : Int), .int (u : Int)]) nT1 _ _ h1
      have g2 := same_new (o := .tup [.int (i : Int), .int (u : Int)]) nT1 _ _ h2
      generalize upd H1 T1 (.tup [.int (i : Int), .int (u : Int)]) = H2 at sm1 g1 g2
      have hlh := heads_len hl i
      refine ⟨.int (u : Int), rfl, .ref nm, rfl, nm, _, rfl, DGet.k (k := Sum.inl (u : Int)) g1, _, rfl, ?_⟩
      rw [valV_nk, heads_any hu]
      cases eh : isHead hl i with
      | true =>
        rw [Bool.not_true, if_neg Bool.false_ne_true]
        refine iteT ?_
        have ep : putK (nk (headsOf hl i) hl) (Sum.inl (u : Int) : Key) (V.int ((headsOf hl i).length : Int)) = nk (headsOf hl (i + 1)) hl := by
          unfold putK
          rw [valV_any, valV_nk, heads_any hu, eh, Bool.not_true, if_neg Bool.false_ne_true, if_neg (by decide), heads_succ, if_pos eh, nk_snoc]
          rw [(getD_iff (by omega)).mpr hu]
        refine ⟨.ref hd, rfl, hd, _, rfl, .inl (.inl (.inl g2)), .ref nm, rfl, .int (u : Int), rfl, nm, _, rfl, DPut.k (k := Sum.inl (u : Int)) g1 (by rw [nk_len]; exact sl _ (by omega)), ?_⟩
        have g2' : (upd H2 nm (.dK (putK (nk (headsOf hl i) hl) (Sum.inl (u : Int) : Key) (V.int ((vi (headsOf hl i)).length : Int))))) hd = some (.lst (vi (headsOf hl i))) := by
          rw [upd_ne (Ne.symm dnh)]
          exact g2
        refine ⟨.ref hd, rfl, .inl ⟨rfl, _, .inl (.inl g2')⟩, .int (i : Int), rfl, hd, _, _, rfl, rfl, g2', by rw [List.length_map]; exact sl _ (by omega), ⟨?_, ?_, ?_⟩, _, _, rfl⟩
        · intro b o eb
          rw [upd_ne (ne_of_none eb fhd), upd_ne (ne_of_none eb nnm)]
          exact sm1 _ _ eb
        · rw [upd_ne dnh, upd_same, List.length_map, ep]
        · rw [upd_same, vi_snoc, heads_succ, if_pos eh]
      | false =>
        rw [Bool.not_false, if_pos rfl]
        refine iteF ?_
        refine ⟨⟨sm1, ?_, ?_⟩, _, _, rfl⟩
        · rw [heads_succ, if_neg (by rw [eh]; decide)]
          exact g1
        · rw [heads_succ, if_neg (by rw [eh]; decide)]
          exact g2
    · obtain ⟨⟨sm, h1, h2⟩, y6, y7, rfl⟩ := hW
      rw [List.length_map] at h1 h2
      have hlh := heads_len hl hl.length
      -- rows
      refine ⟨.ref hd, rfl, hd, rfl, ⟨_, .inl (.inl h2)⟩, fun D nD => ?_⟩
      have fD : H D = none := sm.free nD
      refine lc_it (walk_list (K := K) (a := hd) (xs := vi (headsOf hl hl.length))) (fun i H' => ∃ as, Same H1 H' ∧ H' D = some (.lst (vr as)) ∧ RowsAt H' as ((mRows rows hl).take i)) ⟨[], same_new nD, upd_same, ⟨rfl, fun i a row x => by simp at x⟩⟩ (fun i H' _ hW => ?_) (fun i x H2 H2' hi hW hY => ?_) (fun H2 hW => ?_)
      · obtain ⟨as, s2, _⟩ := hW
        exact .inl (.inl (s2 _ _ h2))
      · obtain ⟨as, s2, eD, ra⟩ := hW
        obtain ⟨rfl, hx⟩ := hY
        obtain ⟨h, hh, rfl⟩ := int_at hx
        rw [List.length_map] at hi
        have hm := List.mem_of_getElem? hh
        have hhn : h < n := by
          have := (heads_mem.mp hm).1
          omega
        obtain ⟨r, er, eg, lr, lt⟩ := k.at_ hhn
        obtain ⟨b, hb, hrow⟩ := hT.get (t := h) (by rw [k.num]; exact hhn)
        rw [eg] at hrow
        have smH : Same H H2' := sm.trans s2
        have emr : (mRows rows hl)[i]? = some (r.map (numOf hl)) := by
          unfold mRows
          rw [List.getElem?_map, hh]
          show some ((rows.getD h []).map (numOf hl)) = _
          rw [eg]
        refine ⟨rfl, lcyes ?_⟩
        refine ⟨.ref tb, rfl, .int (h : Int), rfl, tb, _, (h : Int), .ref b, rfl, rfl, .inl (.inl (smH _ _ hT.1)), atI_nat hb, b, rfl, ⟨_, .inl (.inl (smH _ _ hrow))⟩, fun D2 n2 => ?_⟩
        have dd : D ≠ D2 := ne_of_none eD n2
        refine lc_it (walk_list (K := K) (a := b) (xs := vi r)) (fun j H' => Same H2' H' ∧ H' D2 = some (.lst (vi ((r.map (numOf hl)).take j)))) ⟨same_new n2, upd_same⟩ (fun j H' _ hW => .inl (.inl (hW.1 _ _ (smH _ _ hrow)))) (fun j x H3 H3' hj hW hY => ?_) (fun H3 hW => ?_)
        · obtain ⟨s3, e3⟩ := hW
          obtain ⟨rfl, hx3⟩ := hY
          obtain ⟨t, ht, rfl⟩ := int_at hx3
          rw [List.length_map] at hj
          have htn : t < hl.length := by
            have := lt t (List.mem_of_getElem? ht)
            omega
          have hlt : hl[t]? = some hl[t] := List.getElem?_eq_getElem htn
          have hvt : (vi hl)[t]? = some (.int (hl[t] : Nat)) := by
            rw [List.getElem?_map, hlt]
            rfl
          refine ⟨rfl, lcyes ?_⟩
          have gn := s3 _ _ (s2 _ _ h1)
          refine ⟨.ref nm, rfl, .ref ho, rfl, .int (t : Int), rfl, ho, _, (t : Int), .int (hl[t] : Nat), rfl, rfl, .inl (.inl (s3 _ _ (smH _ _ hho))), atI_nat hvt, nm, .int (numOf hl t : Nat), rfl, ?_, _, e3, ?_, ?_, ?_⟩
          · have := DGet.k (k := Sum.inl (hl[t] : Int)) gn
            rw [num_find hlt] at this
            exact this
          · rw [List.length_map, List.length_take, List.length_map]
            have := k.l5
            exact sl _ (by omega)
          · intro b' o eb
            rw [upd_ne (ne_of_none eb n2)]
            exact s3 _ _ eb
          · rw [upd_same, vi_snoc]
            have e4 : (r.map (numOf hl))[j]? = some (numOf hl t) := by
              rw [List.getElem?_map, ht]
              rfl
            rw [take_snoc e4]
        · obtain ⟨s3, e3⟩ := hW
          have et : (r.map (numOf hl)).take (vi r).length = r.map (numOf hl) := List.take_of_length_le (by rw [List.length_map, List.length_map]; exact Nat.le_refl _)
          rw [et] at e3
          refine ⟨D2, _, rfl, .inl ⟨.inl (.inl e3), fun p np => ?_⟩⟩
          have eD3 := s3 _ _ eD
          have dp : D ≠ p := ne_of_none eD3 np
          refine ⟨vr as, by rw [upd_ne dp]; exact eD3, ?_, as ++ [p], ?_, ?_, ?_⟩
          · rw [List.length_map, ra.1, List.length_take]
            unfold mRows
            rw [List.length_map]
            exact sl _ (by omega)
          · intro b' o eb
            rw [upd_ne (ne_of_none eb nD), upd_ne (ne_of_none (s3 _ _ (s2 _ _ eb)) np)]
            exact s3 _ _ (s2 _ _ eb)
          · rw [upd_same, vr_snoc]
          · rw [take_snoc emr]
            have ra3 := (ra.mono (Tups.same s3)).mono (Tups.new (o := .tup (vi (r.map (numOf hl)))) np)
            exact (ra3.snoc upd_same).mono (Tups.lst (xs := vr as) (by rw [upd_ne dp]; exact eD3))
      · obtain ⟨as, s2, eD, ra⟩ := hW
        have lmr : (mRows rows hl).length = (headsOf hl hl.length).length := by
          unfold mRows
          rw [List.length_map]
        have et : (mRows rows hl).take (vi (headsOf hl hl.length)).length = mRows rows hl := List.take_of_length_le (by rw [List.length_map, lmr]; exact Nat.le_refl _)
        rw [et] at ra
        have smH : Same H H2 := sm.trans s2
        have hd2 := s2 _ _ h2
        -- ends
        refine ⟨.ref hd, rfl, hd, _, rfl, .inl (.inl hd2), fun D3 n3 => ?_⟩
        refine lc_it (walk_enum (K := K) (a := hd) (xs := vi (headsOf hl hl.length))) (fun i H' => Same H2 H' ∧ H' D3 = some (.lst (vi ((List.range i).filter fun k => decide (bs[(headsOf hl hl.length).getD k 0]? = some true))))) ⟨same_new n3, upd_same⟩ (fun i H' _ hW => .inl (.inl (hW.1 _ _ hd2))) (fun i x H3 H3' hi hW hY => ?_) (fun H3 hW => ?_)
        · obtain ⟨s3, e3⟩ := hW
          obtain ⟨T1, v1, v2, rfl, nT1, rfl, e1, e2⟩ := hY
          cases e1
          obtain ⟨h, hh, rfl⟩ := int_at e2
          rw [List.length_map] at hi
          have hhn : h < bs.length := by
            have := (heads_mem.mp (List.mem_of_getElem? hh)).1
            omega
          have hgd : (headsOf hl hl.length).getD i 0 = h := by
            rw [List.getD_eq_getElem?_getD, hh]
            rfl
          refine ⟨T1, [.int (i : Int), .int (h : Int)], rfl, .inl (.inl upd_same), rfl, .int (i : Int), [.int (h : Int)], rfl, .int (h : Int), [], rfl, rfl, rfl, ?_⟩
          have s4 : Same H2 (upd H3 T1 (.tup [.int (i : Int), .int (h : Int)])) := s3.trans (same_new nT1)
          have e4 := same_new (o := .tup [.int (i : Int), .int (h : Int)]) nT1 _ _ e3
          generalize upd H3 T1 (.tup [.int (i : Int), .int (h : Int)]) = H4 at s4 e4
          have hb : bs[h]? = some bs[h] := List.getElem?_eq_getElem hhn
          generalize bs[h] = b at hb
          have hvb : (bs.map V.bl)[h]? = some (.bl b) := by
            rw [List.getElem?_map, hb]
            rfl
          refine ⟨.ref e, rfl, .int (h : Int), rfl, e, _, (h : Int), .bl b, rfl, rfl, .inl (.inl (s4 _ _ (smH _ _ he))), atI_nat hvb, b, rfl, ?_⟩
          cases b with
          | true =>
            refine iteT ?_
            refine ⟨.int (i : Int), rfl, _, e4, ?_, ?_, ?_⟩
            · rw [List.length_map]
              refine Nat.lt_of_le_of_lt (List.length_filter_le _ _) ?_
              rw [List.length_range]
              exact sl _ (by omega)
            · intro b' o eb
              rw [upd_ne (ne_of_none eb n3)]
              exact s4 _ _ eb
            · rw [upd_same, vi_snoc, List.range_succ, List.filter_append]
              have : ([i].filter fun k => decide (bs[(headsOf hl hl.length).getD k 0]? = some true)) = [i] := by
                rw [List.filter_cons, hgd, hb]
                rfl
              rw [this]
          | false =>
            refine iteF ?_
            refine ⟨s4, ?_⟩
            rw [List.range_succ, List.filter_append]
            have : ([i].filter fun k => decide (bs[(headsOf hl hl.length).getD k 0]? = some true)) = [] := by
              rw [List.filter_cons, hgd, hb]
              rfl
            rw [this, List.append_nil]
            exact e4
        · obtain ⟨s3, e3⟩ := hW
          rw [List.length_map] at e3
          -- return
          refine ⟨.str z, rfl, .ref D, rfl, D, _, rfl, .inl ⟨.inl (.inl (s3 _ _ eD)), fun p4 n4 => ?_⟩⟩
          have e3' := same_new (o := .tup (vr as)) n4 _ _ e3
          refine ⟨.ref D3, rfl, D3, _, rfl, .inl ⟨.inl (.inl e3'), fun p5 n5 => ?_⟩⟩
          refine ⟨by show 3 ≤ sizeLine; decide, fun p6 n6 => ?_⟩
          refine q _ p6 (((smH.trans s3).trans (same_new n4)).trans ((same_new n5).trans (same_new n6))) ⟨p4, p5, as, upd_same, ?_, (ra.mono (Tups.same s3)).mono (((Tups.new n4).trans (Tups.new n5)).trans (Tups.new n6)), ?_⟩
          · exact ((Tups.new n5).trans (Tups.new n6)) _ _ upd_same
          · exact (Tups.new n6) _ _ upd_same
end
end LH

namespace LH
open PySem PySem.Spec PyProof.Rows L2 NdefX LamX
/-! ### walked: the states in the order of their first words -/
def AtT (tbl : List (List Nat)) (r c v : Nat) : Prop := ∃ row, tbl[r]? = some row ∧ row[c]? = some v
structure WI (n0 L : Nat) (R : Nat → List Nat) (s0 : Nat) (ks : List Nat) (tbl : List (List Nat)) : Prop where
  one : ks[0]? = some s0
  nd : ks.Nodup
  lt : ∀ s ∈ ks, s < n0
  le : tbl.length ≤ ks.length
  row : ∀ (j s : Nat) (r : List Nat), ks[j]? = some s → tbl[j]? = some r → r.length ≤ L ∧ ∀ c v : Nat, r[c]? = some v → ∃ t : Nat, (R s)[c]? = some t ∧ ks[v]? = some t
  bfs : ∀ k, 1 ≤ k → k < ks.length → ∃ r c, r < k ∧ AtT tbl r c k ∧ ∀ r' c' v, (r' < r ∨ (r' = r ∧ c' < c)) → AtT tbl r' c' v → v < k
theorem at_snoc {tbl : List (List Nat)} {cur : List Nat} {r c v : Nat} : AtT (tbl ++ [cur]) r c v ↔ AtT tbl r c v ∨ (r = tbl.length ∧ cur[c]? = some v) := by
  unfold AtT
  by_cases h : r < tbl.length
  · rw [List.getElem?_append_left h]
    exact ⟨fun z => .inl z, fun z => z.elim id fun y => absurd h (by omega)⟩
  · by_cases h2 : r = tbl.length
    · subst h2
      rw [List.getElem?_append_right (Nat.le_refl _), Nat.sub_self]
      constructor
      · rintro ⟨row, e, q⟩
        cases e
        exact .inr ⟨rfl, q⟩
      · rintro (⟨row, e, q⟩ | ⟨_, q⟩)
        · rw [List.getElem?_eq_none (Nat.le_refl _)] at e
          cases e
        · exact ⟨cur, rfl, q⟩
    · rw [List.getElem?_eq_none (by rw [List.length_append]; show tbl.length + 1 ≤ r; omega), List.getElem?_eq_none (by omega)]
      constructor
      · rintro ⟨row, e, _⟩
        cases e
      · rintro (⟨row, e, _⟩ | ⟨e, _⟩)
        · cases e
        · exact absurd e h2
theorem WI.start {n0 L : Nat} {R : Nat → List Nat} {s0 : Nat} (h : s0 < n0) : WI n0 L R s0 [s0] [] := ⟨rfl, by simp, fun s hs => by rw [List.mem_singleton.mp hs]; exact h, by simp, fun j s r _ e => by simp at e, fun k h1 h2 => by
  have : k < 1 := h2
  omega⟩
theorem WI.open_ {n0 L : Nat} {R : Nat → List Nat} {s0 : Nat} {ks : List Nat} {tbl : List (List Nat)} (h : WI n0 L R s0 ks tbl) (l : tbl.length < ks.length) : WI n0 L R s0 ks (tbl ++ [[]]) := by
  have key : ∀ r c v, AtT (tbl ++ [[]]) r c v ↔ AtT tbl r c v := fun r c v => by
    rw [at_snoc]
    exact ⟨fun z => z.elim id fun y => by have := y.2; simp at this, .inl⟩
  refine ⟨h.one, h.nd, h.lt, by rw [List.length_append]; exact l, fun j s r hs hr => ?_, fun k h1 h2 => ?_⟩
  · by_cases hj : j < tbl.length
    · rw [List.getElem?_append_left hj] at hr
      exact h.row j s r hs hr
    · rw [List.getElem?_append_right (by omega)] at hr
      have : j - tbl.length = 0 := by
        cases z : j - tbl.length with
        | zero => rfl
        | succ m =>
          rw [z] at hr
          simp at hr
      rw [this] at hr
      cases hr
      exact ⟨Nat.zero_le _, fun c v e => by simp at e⟩
  · obtain ⟨r, c, a, b, d⟩ := h.bfs k h1 h2
    exact ⟨r, c, a, (key r c k).mpr b, fun r' c' v lt e => d r' c' v lt ((key r' c' v).mp e)⟩
/-- one more number in the last row; ks' is ks, or ks and the state that is new -/
theorem WI.put {n0 L : Nat} {R : Nat → List Nat} {s0 : Nat} {ks ks' : List Nat} {tbl : List (List Nat)} {cur : List Nat} {s t v : Nat} (h : WI n0 L R s0 ks (tbl ++ [cur])) (hs : ks[tbl.length]? = some s) (ht : (R s)[cur.length]? = some t) (htn : t < n0) (hL : (R s).length ≤ L) (hv : ks'[v]? = some t)
    (hk : ks' = ks ∨ (ks' = ks ++ [t] ∧ t ∉ ks)) : WI n0 L R s0 ks' (tbl ++ [cur ++ [v]]) := by
  have ext : ∀ j x, ks[j]? = some x → ks'[j]? = some x := fun j x e => by
    rcases hk with rfl | ⟨rfl, _⟩
    · exact e
    · rw [List.getElem?_append_left (List.getElem?_eq_some_iff.mp e).1]
      exact e
  have back_ : ∀ j x, j ≤ tbl.length → ks'[j]? = some x → ks[j]? = some x := fun j x hj e => by
    have hl := (List.getElem?_eq_some_iff.mp hs).1
    rcases hk with rfl | ⟨rfl, _⟩
    · exact e
    · rw [List.getElem?_append_left (by omega)] at e
      exact e
  have key : ∀ r c x, AtT (tbl ++ [cur ++ [v]]) r c x ↔ AtT (tbl ++ [cur]) r c x ∨ (r = tbl.length ∧ c = cur.length ∧ x = v) := fun r c x => by
    rw [at_snoc, at_snoc]
    constructor
    · rintro (z | ⟨e, q⟩)
      · exact .inl (.inl z)
      · by_cases hc : c < cur.length
        · rw [List.getElem?_append_left hc] at q
          exact .inl (.inr ⟨e, q⟩)
        · rw [List.getElem?_append_right (by omega)] at q
          cases z : c - cur.length with
          | zero =>
            rw [z] at q
            cases q
            exact .inr ⟨e, by omega, rfl⟩
          | succ m =>
            rw [z] at q
            simp at q
    · rintro ((z | ⟨e, q⟩) | ⟨e1, e2, e3⟩)
      · exact .inl z
      · exact .inr ⟨e, by rw [List.getElem?_append_left (List.getElem?_eq_some_iff.mp q).1]; exact q⟩
      · subst e1 e2 e3
        refine .inr ⟨rfl, ?_⟩
        rw [List.getElem?_append_right (Nat.le_refl _), Nat.sub_self]
        rfl
  have bound : ∀ r c x, AtT (tbl ++ [cur]) r c x → x < ks.length := fun r c x ⟨row, e, q⟩ => by
    have hr := (List.getElem?_eq_some_iff.mp e).1
    have hle := h.le
    have : r < ks.length := by omega
    obtain ⟨_, z⟩ := h.row r _ row (List.getElem?_eq_getElem this) e
    obtain ⟨t', _, y⟩ := z c x q
    exact (List.getElem?_eq_some_iff.mp y).1
  have lk : ks.length ≤ ks'.length := by
    rcases hk with rfl | ⟨rfl, _⟩
    · exact Nat.le_refl _
    · rw [List.length_append]
      omega
  refine ⟨ext 0 _ h.one, ?_, ?_, ?_, fun j s1 r hs1 hr => ?_, fun k h1 h2 => ?_⟩
  · rcases hk with rfl | ⟨rfl, nin⟩
    · exact h.nd
    · refine List.nodup_append.mpr ⟨h.nd, by simp, fun x hx y hy e => ?_⟩
      rw [List.mem_singleton.mp hy] at e
      exact nin (e ▸ hx)
  · rcases hk with rfl | ⟨rfl, _⟩
    · exact h.lt
    · exact mem_snoc h.lt htn
  · have := h.le
    rw [List.length_append] at this ⊢
    exact Nat.le_trans this lk
  · by_cases hj : j < tbl.length
    · rw [List.getElem?_append_left hj] at hr
      obtain ⟨a, b⟩ := h.row j s1 r (back_ j s1 (by omega) hs1) (by rw [List.getElem?_append_left hj]; exact hr)
      refine ⟨a, fun c x e => ?_⟩
      obtain ⟨t', y1, y2⟩ := b c x e
      exact ⟨t', y1, ext _ _ y2⟩
    · rw [List.getElem?_append_right (by omega)] at hr
      have ej : j - tbl.length = 0 := by
        cases z : j - tbl.length with
        | zero => rfl
        | succ m =>
          rw [z] at hr
          simp at hr
      rw [ej] at hr
      cases hr
      have ej2 : j = tbl.length := by omega
      subst ej2
      have hs2 := back_ _ s1 (Nat.le_refl _) hs1
      rw [hs] at hs2
      cases hs2
      obtain ⟨a, b⟩ := h.row tbl.length s cur hs (by rw [List.getElem?_append_right (Nat.le_refl _), Nat.sub_self]; rfl)
      have hcl := (List.getElem?_eq_some_iff.mp ht).1
      refine ⟨by rw [List.length_append]; show cur.length + 1 ≤ L; omega, fun c x e => ?_⟩
      by_cases hc : c < cur.length
      · rw [List.getElem?_append_left hc] at e
        obtain ⟨t', y1, y2⟩ := b c x e
        exact ⟨t', y1, ext _ _ y2⟩
      · rw [List.getElem?_append_right (by omega)] at e
        have ec : c - cur.length = 0 := by
          cases z : c - cur.length with
          | zero => rfl
          | succ m =>
            rw [z] at e
            simp at e
        rw [ec] at e
        cases e
        have : c = cur.length := by omega
        subst this
        exact ⟨t, ht, hv⟩
  · by_cases hkl : k < ks.length
    · obtain ⟨r, c, a, b, d⟩ := h.bfs k h1 hkl
      refine ⟨r, c, a, (key r c k).mpr (.inl b), fun r' c' x lt e => ?_⟩
      rcases (key r' c' x).mp e with z | ⟨e1, e2, _⟩
      · exact d r' c' x lt z
      · -- the new place is behind all others
        obtain ⟨row, y1, y2⟩ := b
        have hr := (List.getElem?_eq_some_iff.mp y1).1
        rw [List.length_append] at hr
        have hr : r < tbl.length + 1 := hr
        rcases lt with lt | ⟨l1, l2⟩
        · omega
        · have : r = tbl.length := by omega
          subst this
          rw [List.getElem?_append_right (Nat.le_refl _), Nat.sub_self] at y1
          cases y1
          have := (List.getElem?_eq_some_iff.mp y2).1
          omega
    · rcases hk with rfl | ⟨rfl, nin⟩
      · omega
      · have ek : k = ks.length := by
          rw [List.length_append] at h2
          have : k < ks.length + 1 := h2
          omega
        have ev : v = ks.length := by
          have hvl := (List.getElem?_eq_some_iff.mp hv).1
          rw [List.length_append] at hvl
          have hvl : v < ks.length + 1 := hvl
          by_cases z : v < ks.length
          · rw [List.getElem?_append_left z] at hv
            exact absurd (List.mem_of_getElem? hv) nin
          · omega
        subst ek
        refine ⟨tbl.length, cur.length, (List.getElem?_eq_some_iff.mp hs).1, (key _ _ _).mpr (.inr ⟨rfl, rfl, ev.symm⟩), fun r' c' x lt e => ?_⟩
        rcases (key r' c' x).mp e with z | ⟨e1, e2, _⟩
        · exact bound r' c' x z
        · omega
abbrev mk (ks : List Nat) : List (Key × V) := ks.zipIdx.map fun (p : Nat × Nat) => ((Sum.inl (p.1 : Int) : Key), V.int (p.2 : Int))
theorem mk_snoc (ks : List Nat) (t : Nat) : mk (ks ++ [t]) = mk ks ++ [((Sum.inl (t : Int) : Key), V.int (ks.length : Int))] := by
  show List.map _ (ks ++ [t]).zipIdx = _
  rw [List.zipIdx_append, List.map_append]
  simp
theorem valV_mkk (x : Nat) : ∀ (ks : List Nat) (k : Nat), valV ((ks.zipIdx k).map fun (p : Nat × Nat) => ((Sum.inl (p.1 : Int) : Key), V.int (p.2 : Int))) (Sum.inl (x : Int) : Key) = if x ∈ ks then some (.int ((k + ks.idxOf x : Nat) : Int)) else none
  | [], _ => rfl
  | h :: r, k => by
    rw [List.zipIdx_cons, List.map_cons, List.idxOf_cons]
    by_cases q : h = x
    · subst q
      rw [valV_pos rfl, if_pos (List.mem_cons_self ..)]
      simp
    · have ne : ¬ (((h, k) : Nat × Nat) |> fun p => ((Sum.inl (p.1 : Int) : Key), V.int (p.2 : Int))).1 = (Sum.inl (x : Int) : Key) := fun z => q (by
        have z1 : ((h : Nat) : Int) = (x : Int) := Sum.inl.inj z
        exact Int.ofNat.inj z1)
      rw [valV_neg ne, valV_mkk x r (k + 1), show (h == x) = false from beq_eq_false_iff_ne.mpr q]
      have : (x ∈ h :: r) ↔ x ∈ r := ⟨fun z => (List.mem_cons.mp z).elim (fun y => absurd y.symm q) id, List.mem_cons_of_mem _⟩
      by_cases e : x ∈ r
      · rw [if_pos e, if_pos (this.mpr e)]
        show some (V.int ((k + 1 + r.idxOf x : Nat) : Int)) = some (V.int ((k + (r.idxOf x + 1) : Nat) : Int))
        congr 2
        omega
      · rw [if_neg e, if_neg (fun z => e (this.mp z))]
theorem valV_mk (x : Nat) (ks : List Nat) : valV (mk ks) (Sum.inl (x : Int) : Key) = if x ∈ ks then some (.int ((ks.idxOf x : Nat) : Int)) else none := by
  have := valV_mkk x ks 0
  rw [Nat.zero_add] at this
  exact this
theorem mk_len (ks : List Nat) : (mk ks).length = ks.length := by
  show (List.map _ _).length = _
  rw [List.length_map, List.length_zipIdx]
theorem WI.many {n0 L : Nat} {R : Nat → List Nat} {s0 : Nat} {ks : List Nat} {tbl : List (List Nat)} (h : WI n0 L R s0 ks tbl) : ks.length ≤ n0 := by
  have := len_le_of_sub (ys := List.range n0) h.nd fun x hx => List.mem_range.mpr (h.lt x hx)
  rw [List.length_range] at this
  exact this
end LH

namespace LH
open PySem PySem.Spec PyProof.Rows L2 NdefX LamX
section
variable {P : Program} {w : World} {K : PySem.W.Frag} {mg : Str → Option Value} {base : Heap}
def sp_walked (P : Program) (w : World) (K : PySem.W.Frag) (mg : Str → Option Value) (base : Heap) : Sp := fun vs H Q _ => ∃ (f : Addr) (F : NF) (spf : Sp) (s0 n0 L : Nat) (R : Nat → List Nat), vs = [.int (s0 : Int), .ref f] ∧ H f = some (FnO f F) ∧ Callable P w K mg base 4 f spf ∧ s0 < n0 ∧ n0 ≤ 1000000 ∧ L ≤ 5 ∧ (∀ s, s < n0 → (R s).length = L ∧ ∀ t ∈ R s, t < n0) ∧
  (∀ (s : Nat) (H' : Hp) (Q' : VK), s < n0 → Same H H' → (∀ H'' p, Same H' H'' → H'' p = some (.tup (vi (R s))) → Q' (.ref p) H'') → spf [.int (s : Int)] H' Q' E0) ∧
  ∀ H' p ka tb ras ks tbl, Same H H' → H' p = some (.tup [.ref ka, .ref tb]) → H' ka = some (.lst (vi ks)) → LolAt H' tb ras tbl → WI n0 L R s0 ks tbl → tbl.length = ks.length → (∀ r ∈ tbl, r.length = L) → Q (.ref p) H'
theorem lol_snoc {H : Hp} {tb ra : Addr} {ras : List Addr} {tbl : List (List Nat)} {row : List Nat} (h : LolAt H tb ras tbl) (hr : H ra = some (.lst (vi row))) (nt : ∀ a ∈ ras, a ≠ tb) (nr : ra ≠ tb) : LolAt (upd H tb (.lst (vr (ras ++ [ra])))) tb (ras ++ [ra]) (tbl ++ [row]) := by
  refine ⟨upd_same, by rw [List.length_append, List.length_append, h.2.1]; rfl, fun i b w x y => ?_⟩
  by_cases hi : i < ras.length
  · rw [List.getElem?_append_left hi] at x
    rw [List.getElem?_append_left (by rw [← h.2.1]; exact hi)] at y
    rw [upd_ne (nt b (List.mem_of_getElem? x))]
    exact h.2.2 i b w x y
  · rw [List.getElem?_append_right (by omega)] at x
    rw [List.getElem?_append_right (by rw [← h.2.1]; omega), ← h.2.1] at y
    have e : i - ras.length = 0 := by
      cases q : i - ras.length with
      | zero => rfl
      | succ k =>
        rw [q] at x
        simp at x
    rw [e] at x y
    cases x
    cases y
    rw [upd_ne nr]
    exact hr
theorem ok_walked (T : TX K mg) : FnOk P w K mg base CX0 5 T.a_walked T.fd_walked ["start", "follow"] (sp_walked P w K mg base) := by
  refine T.F_walked.ok sc_walked (fun vs H Q E h => ?_) (fun cdv A outer s H vs Q E hr h => ?_)
  · obtain ⟨f, F, spf, s0, n0, L, R, rfl, _⟩ := h
    rfl
  · obtain ⟨f, F, spf, s0, n0, L, R, rfl, hf, ca, h0, hbig, hL, hR, hsp, q⟩ := h
    refine ⟨_, (pss_cons (ps_set (i := 2) sc_walked.nd rfl (Or.inl rfl) (pe_disp (pps_cons (pv 0) pe_int pps_nil) (by rfl) (by rfl) (fun z => by cases z) (by decide)))
      (pss_cons (ps_set (i := 3) sc_walked.nd rfl (Or.inl rfl) (pe_lst (pa_cons (pv 0) pa_nil)))
      (pss_cons (ps_set (i := 4) sc_walked.nd rfl (Or.inl rfl) (pe_lst pa_nil))
      (pss_cons (ps_while PassesOwn.never (pt_cmpR op_lt (pe_callB (call_lenK K rfl) (by rfl) T.m_len (by decide +kernel) (pa_cons (pv 4) pa_nil)) (pe_callB (call_lenK K rfl) (by rfl) T.m_len (by decide +kernel) (pa_cons (pv 3) pa_nil)) (nomark _))
        (pss_cons (ps_set (i := 5) sc_walked.nd rfl (Or.inl rfl) (pe_lst pa_nil))
          (pss_cons (ps_set (i := 6) sc_walked.nd rfl (Or.inl rfl) (pe_callV (k := 4) (i := 1) P w K mg base rfl rfl rfl rfl rfl (hr.mono (by decide)) rfl (by first | exact Or.inl rfl | exact Or.inr (Or.inl rfl) | exact Or.inr (Or.inr rfl)) (pa_cons (pe_ix (ix_listK K rfl) (pv 3) (pe_callB (call_lenK K rfl) (by rfl) T.m_len (by decide +kernel) (pa_cons (pv 4) pa_nil)) (fun _ _ => rfl)) pa_nil)))
          (pss_cons (ps_for PassesOwn.never rfl (pi_tupK K rfl (pv 6)) (pg_name (i := 7) sc_walked.nd rfl (Or.inl rfl))
            (C8.pss_cut (ps_if (pt_cmp (pc_dnotin (hu_of hr) (pv 7) (pv 2)))
                (pss_cons (ps_dput (hu_of hr) (pv 2) (pv 7) (pe_callB (call_lenK K rfl) (by rfl) T.m_len (by decide +kernel) (pa_cons (pv 3) pa_nil)) rfl)
                  (pss_one (ps_expr (pe_bmK K rfl PySem.F.plainAttrs_list PySem.F.slot_list_append PySem.F.type_list_append mt_append (pv 3) (pa_cons (pv 7) pa_nil)))))
                pss_nil)
              (pss_one (ps_expr (pe_bmK K rfl PySem.F.plainAttrs_list PySem.F.slot_list_append PySem.F.type_list_append mt_append (pv 5) (pa_cons (pe_dget (hu_of hr) (pv 2) (pv 7) (fun _ _ => rfl)) pa_nil))))))
          (pss_one (ps_expr (pe_bmK K rfl PySem.F.plainAttrs_list PySem.F.slot_list_append PySem.F.type_list_append mt_append (pv 4) (pa_cons (pv 5) pa_nil))))))))
      (pss_one (ps_ret (pe_tup (pa_cons (pv 3) (pa_cons (pv 4) pa_nil))))))))), ?_⟩
    have sl : ∀ m, m ≤ 1000000 → m < sizeLine := fun m hm => Nat.lt_of_le_of_lt hm (by decide)
    -- numbers, keys, table
    refine fun nm nnm => ⟨.int (s0 : Int), rfl, upd_same, [(Sum.inl (s0 : Int), V.int 0)], rfl, (by show 1 ≤ 15; decide), ?_⟩
    rw [upd_upd]
    refine ⟨.int (s0 : Int), rfl, by show 1 ≤ sizeLine; decide, fun ka nka => ⟨by show 0 ≤ sizeLine; decide, fun ta nta => ?_⟩⟩
    have em : mergeK [] [((Sum.inl (s0 : Int) : Key), V.int 0)] = mk [s0] := rfl
    rw [em] at nka nta ⊢
    have d1 : nm ≠ ka := ne_of_none upd_same nka
    have e1 : (upd (upd H nm (.dK (mk [s0]))) ka (.lst [.int (s0 : Int)])) nm = some (.dK (mk [s0])) := same_new nka _ _ upd_same
    have d2 : nm ≠ ta := ne_of_none e1 nta
    have d3 : ka ≠ ta := ne_of_none upd_same nta
    have fka : H ka = none := (same_new nnm).free nka
    have sm0 : Same H (upd (upd H nm (.dK (mk [s0]))) ka (.lst [.int (s0 : Int)])) := (same_new nnm).trans (same_new nka)
    have fta : H ta = none := sm0.free nta
    -- while
    refine ⟨fun m σ H' => ∃ (ks : List Nat) (tbl : List (List Nat)) (ras : List Addr) (y5 y6 y7 : Option V), m + tbl.length = n0 + 1 ∧ σ = [some (.int (s0 : Int)), some (.ref f), some (.ref nm), some (.ref ka), some (.ref ta), y5, y6, y7] ∧ Same H H' ∧ H' nm = some (.dK (mk ks)) ∧ H' ka = some (.lst (vi ks)) ∧ LolAt H' ta ras tbl ∧ WI n0 L R s0 ks tbl ∧ (∀ r ∈ tbl, r.length = L) ∧ (∀ a ∈ ras, H a = none ∧ a ≠ ta ∧ a ≠ ka),
      ⟨n0 + 1, [s0], [], [], none, none, none, rfl, rfl, sm0.trans (same_new nta), same_new nta _ _ e1, same_new nta _ _ upd_same, ⟨upd_same, rfl, fun i b w x => by simp at x⟩, WI.start h0, (fun _ h => nomatch h), fun _ h => nomatch h⟩, fun m σ H1 hW => ?_⟩
    obtain ⟨ks, tbl, ras, y5, y6, y7, hm, rfl, sm1, en, ek1, ht1, wi, full, fr⟩ := hW
    have hmany := wi.many
    have hrl : ras.length = tbl.length := ht1.2.1
    refine ⟨.ref ta, rfl, ta, _, rfl, .inl (.inl (.inl ht1.1)), .ref ka, rfl, ka, _, rfl, .inl (.inl (.inl ek1)), _, _, rfl, rfl, _, rfl, ite2 (fun z => ?_) (fun z => ?_)⟩
    · have hlt : tbl.length < ks.length := by
        have := of_decide_eq_true z
        rw [List.length_map, List.length_map, hrl] at this
        omega
      refine ⟨fun σ' H' => ∃ (ks : List Nat) (row : List Nat) (ras' : List Addr) (y5 y6 y7 : Option V), σ' = [some (.int (s0 : Int)), some (.ref f), some (.ref nm), some (.ref ka), some (.ref ta), y5, y6, y7] ∧ Same H H' ∧ H' nm = some (.dK (mk ks)) ∧ H' ka = some (.lst (vi ks)) ∧ LolAt H' ta ras' (tbl ++ [row]) ∧ WI n0 L R s0 ks (tbl ++ [row]) ∧ row.length = L ∧ (∀ a ∈ ras', H a = none ∧ a ≠ ta ∧ a ≠ ka), fun σ' H' hN => ?_, ?_⟩
      · obtain ⟨ks', row, ras', y5, y6, y7, r1, r2, r3, r4, r5, r6, r7, r8⟩ := hN
        have := r6.le
        have hm' := r6.many
        rw [List.length_append] at this
        have this : tbl.length + 1 ≤ ks'.length := this
        refine ⟨m - 1, by omega, ks', tbl ++ [row], ras', y5, y6, y7, ?_, r1, r2, r3, r4, r5, r6, mem_snoc full r7, r8⟩
        rw [List.length_append]
        show m - 1 + (tbl.length + 1) = n0 + 1
        omega
      -- row = []
      refine ⟨by show 0 ≤ sizeLine; decide, fun ra nra => ?_⟩
      have sm2 : Same H (upd H1 ra (.lst [])) := sm1.trans (same_new nra)
      have s2 : Same H1 (upd H1 ra (.lst [])) := same_new nra
      have era : (upd H1 ra (.lst [])) ra = some (.lst (vi [])) := upd_same
      have fra : H ra = none := sm1.free nra
      have ra1 : nm ≠ ra := ne_of_none en nra
      have ra2 : ka ≠ ra := ne_of_none ek1 nra
      have ra3 : ta ≠ ra := ne_of_none ht1.1 nra
      have ra4 : ∀ a ∈ ras, a ≠ ra := fun a ha e => by
        obtain ⟨i, hi⟩ := List.mem_iff_getElem?.mp ha
        have hil : i < tbl.length := by
          rw [← hrl]
          exact (List.getElem?_eq_some_iff.mp hi).1
        have := ht1.2.2 i a _ hi (List.getElem?_eq_getElem hil)
        exact ne_of_none this nra e
      have en2 := s2 _ _ en
      have ek2 := s2 _ _ ek1
      have ht2 := ht1.same s2
      generalize upd H1 ra (.lst []) = H2 at sm2 s2 era en2 ek2 ht2
      have hks : ks[tbl.length]? = some ks[tbl.length] := List.getElem?_eq_getElem hlt
      generalize ks[tbl.length] = sx at hks
      have hsx : sx < n0 := wi.lt sx (List.mem_of_getElem? hks)
      obtain ⟨hRl, hRt⟩ := hR sx hsx
      have hvk : (vi ks)[ras.length]? = some (.int (sx : Int)) := by
        rw [List.getElem?_map, hrl, hks]
        rfl
      -- behind = follow(keys[len(table)])
      refine ⟨f, F, spf, rfl, sm2 _ _ hf, ca, .ref ka, rfl, .ref ta, rfl, ta, _, rfl, .inl (.inl (.inl ht2.1)), ka, _, _, .int (sx : Int), rfl, rfl, .inl (.inl ek2), ?_, sm2 _ _ hf, hsp sx H2 _ hsx sm2 fun H3 pb s3 eb => ?_⟩
      · rw [List.length_map]
        exact atI_nat hvk
      have wi0 := wi.open_ hlt
      -- for key in behind
      refine ⟨.ref pb, rfl, pb, rfl, ⟨_, .inl (.inl eb)⟩, ?_⟩
      refine for_it (walk_tup (K := K) (a := pb) (xs := vi (R sx))) (fun c σ H' => (∃ ks cur, Same H H' ∧ H' nm = some (.dK (mk ks)) ∧ H' ka = some (.lst (vi ks)) ∧ LolAt H' ta ras tbl ∧ H' ra = some (.lst (vi cur)) ∧ H' pb = some (.tup (vi (R sx))) ∧ cur.length = c ∧ ks[tbl.length]? = some sx ∧ WI n0 L R s0 ks (tbl ++ [cur])) ∧ ∃ y7, σ = [some (.int (s0 : Int)), some (.ref f), some (.ref nm), some (.ref ka), some (.ref ta), some (.ref ra), some (.ref pb), y7]) ⟨⟨ks, [], sm2.trans s3, s3 _ _ en2, s3 _ _ ek2, ht2.same s3, s3 _ _ era, eb, rfl, hks, wi0⟩, y7, rfl⟩ (fun c σ H' _ hW => ?_) (fun c x σ H4 H4' hc hW hY => ?_) (fun σ H4 hW => ?_)
      · obtain ⟨⟨_, _, _, _, _, _, _, z, _⟩, _⟩ := hW
        exact .inl (.inl z)
      · obtain ⟨⟨ks, cur, sm4, en4, ek4, ht4, er4, eb4, lc, hk4, wi4⟩, y7, rfl⟩ := hW
        obtain ⟨rfl, hx⟩ := hY
        obtain ⟨t, ht, rfl⟩ := int_at hx
        have htn := hRt t (List.mem_of_getElem? ht)
        have hm4 := wi4.many
        have nlol : ∀ {H5 : Hp}, (∀ b, b ≠ nm → b ≠ ka → b ≠ ra → H5 b = H4' b) → LolAt H5 ta ras tbl := fun {H5} hh => by
          refine ⟨by rw [hh ta (Ne.symm d2) (Ne.symm d3) ra3]; exact ht4.1, ht4.2.1, fun i b w' x' y' => ?_⟩
          have z := ht4.2.2 i b w' x' y'
          rw [hh b (ne_of z en4 (by intro q; cases q)) (fr b (List.mem_of_getElem? x')).2.2 (ra4 b (List.mem_of_getElem? x'))]
          exact z
        refine ⟨fun σ' H' => ∃ ks', (ks' = ks ∨ (ks' = ks ++ [t] ∧ t ∉ ks)) ∧ t ∈ ks' ∧ ks'.Nodup ∧ σ' = [some (.int (s0 : Int)), some (.ref f), some (.ref nm), some (.ref ka), some (.ref ta), some (.ref ra), some (.ref pb), some (.int (t : Int))] ∧ Same H H' ∧ H' nm = some (.dK (mk ks')) ∧ H' ka = some (.lst (vi ks')) ∧ (∀ b, b ≠ nm → b ≠ ka → H' b = H4' b), ?_, fun σ' H' hM => ?_⟩
        · refine ⟨.int (t : Int), rfl, .ref nm, rfl, nm, _, rfl, DGet.k (k := Sum.inl (t : Int)) en4, _, rfl, ?_⟩
          rw [valV_mk]
          by_cases hin : t ∈ ks
          · rw [if_pos hin]
            refine iteF ?_
            exact ⟨ks, .inl rfl, hin, wi4.nd, rfl, sm4, en4, ek4, fun _ _ _ => rfl⟩
          · rw [if_neg hin]
            refine iteT ?_
            have ep : putK (mk ks) (Sum.inl (t : Int) : Key) (V.int ((vi ks).length : Int)) = mk (ks ++ [t]) := by
              unfold putK
              rw [valV_any, valV_mk, if_neg hin, if_neg (by decide), mk_snoc, List.length_map]
            refine ⟨.ref ka, rfl, ka, _, rfl, .inl (.inl (.inl ek4)), .ref nm, rfl, .int (t : Int), rfl, nm, _, rfl, DPut.k (k := Sum.inl (t : Int)) en4 (by rw [mk_len]; exact sl _ (by omega)), ?_⟩
            rw [ep]
            have ek5 : (upd H4' nm (.dK (mk (ks ++ [t])))) ka = some (.lst (vi ks)) := by
              rw [upd_ne (Ne.symm d1)]
              exact ek4
            refine ⟨.ref ka, rfl, .inl ⟨rfl, _, .inl (.inl ek5)⟩, .int (t : Int), rfl, ka, _, _, rfl, rfl, ek5, by rw [List.length_map]; exact sl _ (by omega), ks ++ [t], .inr ⟨rfl, hin⟩, List.mem_append_right _ (List.mem_singleton.mpr rfl), ?_, rfl, ?_, ?_, ?_, ?_⟩
            · refine List.nodup_append.mpr ⟨wi4.nd, by simp, fun x hx y hy e => ?_⟩
              rw [List.mem_singleton.mp hy] at e
              exact hin (e ▸ hx)
            · intro b o e
              rw [upd_ne (ne_of_none e fka), upd_ne (ne_of_none e nnm)]
              exact sm4 _ _ e
            · rw [upd_ne d1, upd_same]
            · rw [upd_same, vi_snoc]
            · intro b h1 h2
              rw [upd_ne h2, upd_ne h1]
        · obtain ⟨ks', hk', htin, nd', rfl, sm5, en5, ek5, rest⟩ := hM
          have er5 : H' ra = some (.lst (vi cur)) := by
            rw [rest ra (Ne.symm ra1) (Ne.symm ra2)]
            exact er4
          have hvt : ks'[ks'.idxOf t]? = some t := by
            have := List.idxOf_lt_length_iff.mpr htin
            rw [List.getElem?_eq_getElem this, List.getElem_idxOf]
          have hk5 : ks'[tbl.length]? = some sx := by
            rcases hk' with rfl | ⟨rfl, _⟩
            · exact hk4
            · rw [List.getElem?_append_left (List.getElem?_eq_some_iff.mp hk4).1]
              exact hk4
          -- row.append(numbers[key])
          refine ⟨.ref ra, rfl, .inl ⟨rfl, _, .inl (.inl er5)⟩, .ref nm, rfl, .int (t : Int), rfl, nm, .int (ks'.idxOf t : Nat), rfl, ?_, ra, _, _, rfl, rfl, er5, by rw [List.length_map]; exact sl _ (by rw [List.length_map] at hc; omega), ⟨ks', cur ++ [ks'.idxOf t], ?_, ?_, ?_, ?_, ?_, ?_, ?_, hk5, ?_⟩, _, rfl⟩
          · have := DGet.k (k := Sum.inl (t : Int)) en5
            rw [valV_mk, if_pos htin] at this
            exact this
          · intro b o e
            rw [upd_ne (ne_of_none e fra)]
            exact sm5 _ _ e
          · rw [upd_ne ra1]
            exact en5
          · rw [upd_ne ra2]
            exact ek5
          · exact nlol fun b h1 h2 h3 => by
              rw [upd_ne h3]
              exact rest b h1 h2
          · rw [upd_same, vi_snoc]
          · have pbr : pb ≠ ra := ne_of eb4 er4 (by intro z; cases z)
            rw [upd_ne pbr, rest pb (ne_of eb4 en4 (by intro z; cases z)) (ne_of eb4 ek4 (by intro z; cases z))]
            exact eb4
          · rw [List.length_append, lc]
            rfl
          · exact wi4.put hk4 (by rw [lc]; exact ht) htn (by omega) hvt hk'
      · obtain ⟨⟨ks, cur, sm4, en4, ek4, ht4, er4, eb4, lc, hk4, wi4⟩, y7, rfl⟩ := hW
        rw [List.length_map, hRl] at lc
        have nt : ∀ a ∈ ras, a ≠ ta := fun a ha => (fr a ha).2.1
        -- table.append(row)
        refine ⟨.ref ta, rfl, .inl ⟨rfl, _, .inl (.inl ht4.1)⟩, .ref ra, rfl, ta, _, _, rfl, rfl, ht4.1, by rw [List.length_map, hrl]; exact sl _ (by omega), ks, cur, ras ++ [ra], _, _, _, rfl, ?_, ?_, ?_, ?_, wi4, lc, ?_⟩
        · intro b o e
          rw [upd_ne (ne_of_none e fta)]
          exact sm4 _ _ e
        · rw [upd_ne d2]
          exact en4
        · rw [upd_ne d3]
          exact ek4
        · rw [vr_snoc]
          exact lol_snoc ht4 er4 nt (Ne.symm ra3)
        · exact mem_snoc fr ⟨fra, Ne.symm ra3, Ne.symm ra2⟩
    · have hle := wi.le
      have hlen : tbl.length = ks.length := by
        have : ¬ (((vr ras).length : Nat) : Int) < ((vi ks).length : Nat) := fun y => z (decide_eq_true y)
        rw [List.length_map, List.length_map, hrl] at this
        omega
      refine ⟨.ref ka, rfl, .ref ta, rfl, by show 2 ≤ sizeLine; decide, fun p np => ?_⟩
      exact q _ p ka ta ras ks tbl (sm1.trans (same_new np)) upd_same (same_new np _ _ ek1) (ht1.same (same_new np)) wi hlen full
end
end LH

namespace LH
open PySem PySem.Spec PyProof.Rows L2 NdefX LamX
structure BuiltOk (n0 L : Nat) (R : Nat → List Nat) (s0 : Nat) (fin : Nat → Bool) (M : Mach) (ks : List Nat) (tbl : List (List Nat)) (hl : List Nat) : Prop where
  wi : WI n0 L R s0 ks tbl
  len : tbl.length = ks.length
  full : ∀ r ∈ tbl, r.length = L
  hlen : hl.length = ks.length
  like : ∀ s t, s < ks.length → t < ks.length → (hl[s]? = hl[t]? ↔ Eqv tbl (ks.map fin) L s t)
  rows : M.rows = mRows tbl hl
  ends : M.ends = mEnds (ks.map fin) hl
theorem BuiltOk.tab {n0 L : Nat} {R : Nat → List Nat} {s0 : Nat} {ks : List Nat} {tbl : List (List Nat)} (wi : WI n0 L R s0 ks tbl) (len : tbl.length = ks.length) (full : ∀ r ∈ tbl, r.length = L) (h1 : 1 ≤ L) (h5 : L ≤ 5) (hb : n0 ≤ 1000000) : TabOk ks.length L tbl := by
  have hm := wi.many
  refine ⟨len, (List.getElem?_eq_some_iff.mp wi.one).1, by omega, h1, h5, fun r hr => ⟨full r hr, fun t ht => ?_⟩⟩
  obtain ⟨j, hj⟩ := List.mem_iff_getElem?.mp hr
  obtain ⟨c, hc⟩ := List.mem_iff_getElem?.mp ht
  have hjl : j < ks.length := by
    rw [← len]
    exact (List.getElem?_eq_some_iff.mp hj).1
  obtain ⟨_, z⟩ := wi.row j _ r (List.getElem?_eq_getElem hjl) hj
  obtain ⟨t', _, y⟩ := z c t hc
  exact (List.getElem?_eq_some_iff.mp y).1
section
variable {P : Program} {w : World} {K : PySem.W.Frag} {mg : Str → Option Value} {base : Heap}
def sp_built (P : Program) (w : World) (K : PySem.W.Frag) (mg : Str → Option Value) (base : Heap) : Sp := fun vs H Q _ => ∃ (z : Str) (f g : Addr) (F G : NF) (spf spg : Sp) (s0 n0 L : Nat) (R : Nat → List Nat) (fin : Nat → Bool), vs = [.str z, .int (s0 : Int), .ref f, .ref g] ∧ H f = some (FnO f F) ∧ Callable P w K mg base 4 f spf ∧ H g = some (FnO g G) ∧ Callable P w K mg base 4 g spg ∧
  s0 < n0 ∧ n0 ≤ 1000000 ∧ 1 ≤ L ∧ L ≤ 5 ∧ (∀ s, s < n0 → (R s).length = L ∧ ∀ t ∈ R s, t < n0) ∧
  (∀ (s : Nat) (H' : Hp) (Q' : VK), s < n0 → Same H H' → (∀ H'' p, Same H' H'' → H'' p = some (.tup (vi (R s))) → Q' (.ref p) H'') → spf [.int (s : Int)] H' Q' E0) ∧
  (∀ (s : Nat) (H' : Hp) (Q' : VK), s < n0 → Same H H' → (∀ H'', Same H' H'' → Q' (.bl (fin s)) H'') → spg [.int (s : Int)] H' Q' E0) ∧
  ∀ H' p (M : Mach) ks tbl hl, Same H H' → MachAt H' p M → M.z = z → BuiltOk n0 L R s0 fin M ks tbl hl → Q (.ref p) H'
theorem ok_built (T : TX K mg) : FnOk P w K mg base CX0 6 T.a_built T.fd_built ["letters", "start", "follow", "is_end"] (sp_built P w K mg base) := by
  have G_walked : FnOk P w K mg base CX0 5 T.a_walked T.fd_walked ["start", "follow"] (sp_walked P w K mg base) := ok_walked T
  have G_parted : FnOk P w K mg base CX0 2 T.a_parted T.fd_parted ["table", "ended"] sp_parted := ok_parted T
  have G_merged : FnOk P w K mg base CX0 1 T.a_merged T.fd_merged ["letters", "table", "ended", "homes"] sp_merged := ok_merged T
  refine T.F_built.ok sc_built (fun vs H Q E h => ?_) (fun cdv A outer s H vs Q E hr h => ?_)
  · obtain ⟨z, f, g, F, G, spf, spg, s0, n0, L, R, fin, rfl, _⟩ := h
    rfl
  · obtain ⟨z, f, g, F, G, spf, spg, s0, n0, L, R, fin, rfl, hf, caf, hg, cag, h0, hbig, hL1, hL5, hR, hspf, hspg, q⟩ := h
    refine ⟨_, (pss_cons (ps_asg (pe_call G_walked (hr.mono (by decide)) (by rfl) T.g_walked T.F_walked.kp T.b_walked .nil pass0 (pa_cons (pv 1) (pa_cons (pv 2) pa_nil))) (pg_tupK (n := 2) K rfl (by rfl) (pgs_cons (pg_name (i := 4) sc_built.nd rfl (Or.inl rfl)) (pgs_cons (pg_name (i := 5) sc_built.nd rfl (Or.inl rfl)) pgs_nil))))
      (pss_cons (ps_setLc (i := 6) (own := [("key", 7)]) (g := gName 7) (tt := tYes) (by rfl) sc_built.nd rfl rfl (sw_true rfl rfl rfl (by decide +kernel)) (pi_listK K rfl (pv 4)) (blkOk_by (own := [("key", 7)]) (N := N_built) (by kernel_rfl)) (fun _ _ _ _ _ => (pg_name (i := 7) sc_built.nd rfl (by first | exact Or.inl rfl | exact Or.inr rfl))) (fun _ _ _ _ _ => pts_nil) (fun _ _ _ _ _ => (pe_callV (k := 4) (i := 3) P w K mg base rfl rfl rfl rfl rfl (hr.mono (by decide)) rfl (by first | exact Or.inl rfl | exact Or.inr (Or.inl rfl) | exact Or.inr (Or.inr rfl)) (pa_cons (pv 7) pa_nil))))
      (pss_one (ps_ret (pe_call G_merged (hr.mono (by decide)) (by rfl) T.g_merged T.F_merged.kp T.b_merged .nil pass0 (pa_cons (pv 0) (pa_cons (pv 5) (pa_cons (pv 6) (pa_cons (pe_call G_parted (hr.mono (by decide)) (by rfl) T.g_parted T.F_parted.kp T.b_parted .nil pass0 (pa_cons (pv 5) (pa_cons (pv 6) pa_nil))) pa_nil))))))))), ?_⟩
    -- keys, table = walked(start, follow)
    refine ⟨.int (s0 : Int), rfl, .ref f, rfl, f, F, spf, s0, n0, L, R, rfl, hf, caf, h0, hbig, hL5, hR, hspf, fun H1 p ka tb ras ks tbl sm1 ep ek et wi len full => ?_⟩
    refine ⟨p, [.ref ka, .ref tb], rfl, .inl (.inl ep), rfl, .ref ka, [.ref tb], rfl, .ref tb, [], rfl, rfl, ?_⟩
    have tk := BuiltOk.tab wi len full hL1 hL5 hbig
    have hm := wi.many
    -- ended
    refine ⟨.ref ka, rfl, ka, rfl, ⟨_, .inl (.inl ek)⟩, fun D nD => ?_⟩
    have fD : H D = none := sm1.free nD
    refine lc_it (walk_list (K := K) (a := ka) (xs := vi ks)) (fun i H' => Same H1 H' ∧ H' D = some (.lst (((ks.take i).map fin).map V.bl))) ⟨same_new nD, upd_same⟩ (fun i H' _ hW => .inl (.inl (hW.1 _ _ ek))) (fun i x H2 H2' hi hW hY => ?_) (fun H2 hW => ?_)
    · obtain ⟨s2, e2⟩ := hW
      obtain ⟨rfl, hx⟩ := hY
      obtain ⟨t, ht, rfl⟩ := int_at hx
      rw [List.length_map] at hi
      refine ⟨rfl, lcyes ?_⟩
      refine ⟨g, G, spg, rfl, s2 _ _ (sm1 _ _ hg), cag, .int (t : Int), rfl, s2 _ _ (sm1 _ _ hg), hspg t H2' _ (wi.lt t (List.mem_of_getElem? ht)) (sm1.trans s2) fun H3 s3 => ?_⟩
      refine ⟨_, s3 _ _ e2, ?_, fun b o eb => ?_, ?_⟩
      · rw [List.length_map, List.length_map, List.length_take]
        exact Nat.lt_of_le_of_lt (show _ ≤ 1000000 by omega) (by decide)
      · rw [upd_ne (ne_of_none eb nD)]
        exact s3 _ _ (s2 _ _ eb)
      · rw [upd_same, take_snoc ht, List.map_append, List.map_append]
        rfl
    · obtain ⟨s2, e2⟩ := hW
      have etk : ks.take (vi ks).length = ks := List.take_of_length_le (by rw [List.length_map]; exact Nat.le_refl _)
      rw [etk] at e2
      have lbs : (ks.map fin).length = ks.length := List.length_map ..
      -- merged(letters, table, ended, parted(table, ended))
      refine ⟨.str z, rfl, .ref tb, rfl, .ref D, rfl, .ref tb, rfl, .ref D, rfl, tb, D, ras, tbl, ks.map fin, ks.length, L, rfl, et.same s2, tk, e2, lbs, fun H3 ho hl s3 fho eho lhl like => ?_⟩
      refine ⟨z, tb, D, ho, ras, tbl, ks.map fin, hl, ks.length, L, rfl, (et.same s2).same s3, tk, s3 _ _ e2, lbs, eho, lhl, fun H4 p4 s4 mm => ?_⟩
      exact q H4 p4 _ ks tbl hl (((sm1.trans s2).trans s3).trans s4) mm rfl ⟨wi, len, full, lhl, like, rfl, rfl⟩
end
end LH

namespace LH
open PySem PySem.Spec PyProof.Rows L2
/-! ### least machines: one for each set of words -/
structure Canon (L : Nat) (rows : List (List Nat)) (ends : List Nat) : Prop where
  one : 1 ≤ rows.length
  row : ∀ r ∈ rows, r.length = L ∧ ∀ t ∈ r, t < rows.length
  endl : ∀ e ∈ ends, e < rows.length
  rise : ends.Pairwise (· < ·)
  bfs : ∀ k, 1 ≤ k → k < rows.length → ∃ r c, r < k ∧ AtT rows r c k ∧ ∀ r' c' v, (r' < r ∨ (r' = r ∧ c' < c)) → AtT rows r' c' v → v < k
  min : ∀ s t, s < rows.length → t < rows.length → (∀ w : List Nat, (∀ c ∈ w, c < L) → (runs rows s w ∈ ends ↔ runs rows t w ∈ ends)) → s = t
theorem at_dl {L : Nat} {rows : List (List Nat)} {r c v : Nat} (h : AtT rows r c v) : dl rows r c = v := by
  obtain ⟨row, e, q⟩ := h
  have e1 : rows.getD r [] = row := by
    rw [List.getD_eq_getElem?_getD, e]
    rfl
  unfold dl
  rw [e1, List.getD_eq_getElem?_getD, q]
  rfl
theorem Canon.at_ {L : Nat} {rows : List (List Nat)} {ends : List Nat} (h : Canon L rows ends) {s c : Nat} (hs : s < rows.length) (hc : c < L) : AtT rows s c (dl rows s c) ∧ dl rows s c < rows.length := by
  have e : rows[s]? = some rows[s] := List.getElem?_eq_getElem hs
  obtain ⟨l, t⟩ := h.row _ (List.getElem_mem hs)
  have hcl : c < rows[s].length := by omega
  have q : rows[s][c]? = some rows[s][c] := List.getElem?_eq_getElem hcl
  have a : AtT rows s c rows[s][c] := ⟨_, e, q⟩
  rw [at_dl (L := L) a]
  exact ⟨a, t _ (List.getElem_mem hcl)⟩
theorem Canon.col {L : Nat} {rows : List (List Nat)} {ends : List Nat} (h : Canon L rows ends) {r c v : Nat} (a : AtT rows r c v) : r < rows.length ∧ c < L := by
  obtain ⟨row, e, q⟩ := a
  have := (h.row row (List.mem_of_getElem? e)).1
  exact ⟨(List.getElem?_eq_some_iff.mp e).1, by rw [← this]; exact (List.getElem?_eq_some_iff.mp q).1⟩
/-- states of two machines with the same words ahead -/
def Like (L : Nat) (rows : List (List Nat)) (ends : List Nat) (rows' : List (List Nat)) (ends' : List Nat) (s s' : Nat) : Prop := ∀ w : List Nat, (∀ c ∈ w, c < L) → (runs rows s w ∈ ends ↔ runs rows' s' w ∈ ends')
theorem Like.step {L : Nat} {rows rows' : List (List Nat)} {ends ends' : List Nat} {s s' c : Nat} (h : Like L rows ends rows' ends' s s') (hc : c < L) : Like L rows ends rows' ends' (dl rows s c) (dl rows' s' c) := fun w hw => h (c :: w) fun d hd => by
  rcases List.mem_cons.mp hd with rfl | hd
  · exact hc
  · exact hw d hd
theorem canon_half {L : Nat} {rows rows' : List (List Nat)} {ends ends' : List Nat} (h : Canon L rows ends) (h' : Canon L rows' ends') (e : Like L rows ends rows' ends' 0 0) : ∀ k, k < rows.length → k < rows'.length ∧ Like L rows ends rows' ends' k k := by
  intro k
  induction k using Nat.strongRecOn with
  | ind k ih =>
    intro hk
    by_cases h0 : k = 0
    · subst h0
      exact ⟨h'.one, e⟩
    · obtain ⟨r, c, hr, ha, hb⟩ := h.bfs k (by omega) hk
      obtain ⟨hrl, hcL⟩ := h.col ha
      obtain ⟨hr', lr⟩ := ih r hr hrl
      have lk := lr.step hcL
      rw [at_dl (L := L) ha] at lk
      obtain ⟨a', b'⟩ := h'.at_ hr' hcL
      have big : ¬ dl rows' r c < k := fun z => by
        obtain ⟨_, lj⟩ := ih _ z (by omega)
        have := h.min k (dl rows' r c) hk (by omega) fun w hw => (lk w hw).trans (lj w hw).symm
        omega
      have eq : dl rows' r c = k := by
        by_cases z : dl rows' r c = k
        · exact z
        · exfalso
          have hk' : k < rows'.length := by omega
          obtain ⟨r2, c2, hr2, ha2, hb2⟩ := h'.bfs k (by omega) hk'
          obtain ⟨hr2l, hc2L⟩ := h'.col ha2
          by_cases o1 : r < r2 ∨ (r = r2 ∧ c < c2)
          · have := hb2 r c _ o1 a'
            omega
          · by_cases o2 : r = r2 ∧ c = c2
            · obtain ⟨rfl, rfl⟩ := o2
              exact z (at_dl (L := L) ha2)
            · have o3 : r2 < r ∨ (r2 = r ∧ c2 < c) := by omega
              have hr2n : r2 < rows.length := by omega
              obtain ⟨a3, b3⟩ := h.at_ hr2n hc2L
              have lt := hb r2 c2 _ o3 a3
              obtain ⟨_, l2⟩ := ih r2 hr2 hr2n
              have l3 := l2.step hc2L
              rw [at_dl (L := L) ha2] at l3
              obtain ⟨hv', lv⟩ := ih _ lt b3
              have := h'.min (dl rows r2 c2) k hv' hk' fun w hw => (lv w hw).symm.trans (l3 w hw)
              omega
      rw [eq] at lk b'
      exact ⟨b', lk⟩
theorem Like.symm {L : Nat} {rows rows' : List (List Nat)} {ends ends' : List Nat} {s s' : Nat} (h : Like L rows ends rows' ends' s s') : Like L rows' ends' rows ends s' s := fun w hw => (h w hw).symm
theorem rise_ext {xs ys : List Nat} (hx : xs.Pairwise (· < ·)) (hy : ys.Pairwise (· < ·)) (e : ∀ a, a ∈ xs ↔ a ∈ ys) : xs = ys := by
  have p : xs.Perm ys := by
    refine (List.perm_ext_iff_of_nodup (hx.imp fun h => Nat.ne_of_lt h) (hy.imp fun h => Nat.ne_of_lt h)).mpr e
  exact p.eq_of_pairwise (fun a b _ _ h1 h2 => absurd h1 (by omega)) hx hy
theorem canon_uniq {L : Nat} {rows rows' : List (List Nat)} {ends ends' : List Nat} (h : Canon L rows ends) (h' : Canon L rows' ends') (e : ∀ w : List Nat, (∀ c ∈ w, c < L) → (runs rows 0 w ∈ ends ↔ runs rows' 0 w ∈ ends')) : rows = rows' ∧ ends = ends' := by
  have a := canon_half h h' e
  have b := canon_half h' h (Like.symm e)
  have len : rows.length = rows'.length := by
    have a1 := (a (rows.length - 1) (by have := h.one; omega)).1
    have b1 := (b (rows'.length - 1) (by have := h'.one; omega)).1
    omega
  refine ⟨List.ext_getElem? fun i => ?_, rise_ext h.rise h'.rise fun x => ?_⟩
  · by_cases hi : i < rows.length
    · have hi' : i < rows'.length := by omega
      rw [List.getElem?_eq_getElem hi, List.getElem?_eq_getElem hi']
      congr 1
      obtain ⟨l1, _⟩ := h.row _ (List.getElem_mem hi)
      obtain ⟨l2, _⟩ := h'.row _ (List.getElem_mem hi')
      refine List.ext_getElem? fun c => ?_
      by_cases hc : c < L
      · obtain ⟨x1, y1⟩ := h.at_ hi hc
        obtain ⟨x2, y2⟩ := h'.at_ hi' hc
        have lv := (a i hi).2.step hc
        obtain ⟨z1, z2⟩ := a _ y1
        have := h'.min (dl rows i c) (dl rows' i c) z1 y2 fun w hw => (z2 w hw).symm.trans (lv w hw)
        obtain ⟨r1, e1, q1⟩ := x1
        obtain ⟨r2, e2, q2⟩ := x2
        rw [List.getElem?_eq_getElem hi] at e1
        rw [List.getElem?_eq_getElem hi'] at e2
        cases e1
        cases e2
        rw [q1, q2, this]
      · rw [List.getElem?_eq_none (by omega), List.getElem?_eq_none (by omega)]
    · rw [List.getElem?_eq_none (by omega), List.getElem?_eq_none (by omega)]
  · constructor
    · intro hx
      exact ((a x (h.endl x hx)).2 [] (fun _ h => nomatch h)).mp hx
    · intro hx
      exact ((b x (h'.endl x hx)).2 [] (fun _ h => nomatch h)).mp hx
end LH

namespace LH
open PySem PySem.Spec PyProof.Rows L2
/-! ### what built tells is least, with just the words that are read from start on -/
section
variable {n0 L s0 : Nat} {R : Nat → List Nat} {fin : Nat → Bool} {M : Mach} {ks : List Nat} {tbl : List (List Nat)} {hl : List Nat}
theorem TabOk.atT {n : Nat} {rows : List (List Nat)} (k : TabOk n L rows) {s c : Nat} (hs : s < n) (hc : c < L) : AtT rows s c (dl rows s c) := by
  obtain ⟨r, e, g, l, _⟩ := k.at_ hs
  have hcl : c < r.length := by omega
  refine ⟨r, e, ?_⟩
  unfold dl
  rw [g, List.getD_eq_getElem?_getD, List.getElem?_eq_getElem hcl]
  rfl
theorem runs_lt {n : Nat} {rows : List (List Nat)} (k : TabOk n L rows) : ∀ (w : List Nat) (s : Nat), s < n → (∀ c ∈ w, c < L) → runs rows s w < n
  | [], _, h, _ => h
  | c :: w, s, h, hw => runs_lt k w _ (k.dl_lt h (hw c (List.mem_cons_self ..))) fun d hd => hw d (List.mem_cons_of_mem _ hd)
theorem mr_len : (mRows tbl hl).length = (headsOf hl hl.length).length := by
  unfold mRows
  rw [List.length_map]
theorem num_lt {s : Nat} (hs : s < hl.length) : numOf hl s < (mRows tbl hl).length := by
  obtain ⟨h, e, _⟩ := num_spec hs
  rw [mr_len]
  exact (List.getElem?_eq_some_iff.mp e).1
theorem num_zero (h0 : 0 < hl.length) : numOf hl 0 = 0 := by
  obtain ⟨h, e, le, _⟩ := num_spec h0
  have : h = 0 := by omega
  subst this
  have hm := List.mem_of_getElem? e
  -- 0 is the least head
  have r := heads_rise hl hl.length
  by_cases z : numOf hl 0 = 0
  · exact z
  · exfalso
    have hl' := (List.getElem?_eq_some_iff.mp e).1
    have h0' : 0 < (headsOf hl hl.length).length := by omega
    have := List.pairwise_iff_getElem.mp r 0 (numOf hl 0) h0' hl' (by omega)
    have e2 := (List.getElem?_eq_some_iff.mp e).2
    omega
theorem dl_num (k : TabOk ks.length L tbl) (hlen : hl.length = ks.length) (like : ∀ s t, s < ks.length → t < ks.length → (hl[s]? = hl[t]? ↔ Eqv tbl (ks.map fin) L s t)) {s c : Nat} (hs : s < ks.length) (hc : c < L) : dl (mRows tbl hl) (numOf hl s) c = numOf hl (dl tbl s c) ∧ AtT (mRows tbl hl) (numOf hl s) c (numOf hl (dl tbl s c)) := by
  obtain ⟨h, e, le, q⟩ := num_spec (hl := hl) (s := s) (by omega)
  have hh : h < ks.length := by omega
  have ev := (like h s hh hs).mp q
  have n1 : numOf hl (dl tbl h c) = numOf hl (dl tbl s c) := by
    have a := k.dl_lt hh hc
    have b := k.dl_lt hs hc
    exact (num_eq (by omega) (by omega)).mpr ((like _ _ a b).mpr (ev.step hc))
  obtain ⟨r, er, q2⟩ := k.atT hh hc
  have at_ : AtT (mRows tbl hl) (numOf hl s) c (numOf hl (dl tbl s c)) := by
    refine ⟨r.map (numOf hl), ?_, by rw [List.getElem?_map, q2, ← n1]; rfl⟩
    unfold mRows
    rw [List.getElem?_map, e]
    show some ((tbl.getD h []).map (numOf hl)) = _
    rw [List.getD_eq_getElem?_getD, er]
    rfl
  exact ⟨at_dl (L := L) at_, at_⟩
theorem runs_num (k : TabOk ks.length L tbl) (hlen : hl.length = ks.length) (like : ∀ s t, s < ks.length → t < ks.length → (hl[s]? = hl[t]? ↔ Eqv tbl (ks.map fin) L s t)) : ∀ (w : List Nat) (s : Nat), s < ks.length → (∀ c ∈ w, c < L) → runs (mRows tbl hl) (numOf hl s) w = numOf hl (runs tbl s w)
  | [], _, _, _ => rfl
  | c :: w, s, hs, hw => by
    have hc := hw c (List.mem_cons_self ..)
    show runs (mRows tbl hl) (dl (mRows tbl hl) (numOf hl s) c) w = numOf hl (runs tbl (dl tbl s c) w)
    rw [(dl_num k hlen like hs hc).1]
    exact runs_num k hlen like w _ (k.dl_lt hs hc) fun d hd => hw d (List.mem_cons_of_mem _ hd)
theorem ends_num (hlen : hl.length = ks.length) (like : ∀ s t, s < ks.length → t < ks.length → (hl[s]? = hl[t]? ↔ Eqv tbl (ks.map fin) L s t)) {s : Nat} (hs : s < ks.length) : numOf hl s ∈ mEnds (ks.map fin) hl ↔ (ks.map fin)[s]? = some true := by
  obtain ⟨h, e, le, q⟩ := num_spec (hl := hl) (s := s) (by omega)
  have ev := (like h s (by omega) hs).mp q
  have e0 : (ks.map fin)[h]? = (ks.map fin)[s]? := ev [] (fun _ h => nomatch h)
  unfold mEnds
  rw [List.mem_filter, List.mem_range, decide_eq_true_iff, List.getD_eq_getElem?_getD, e]
  show _ ∧ (ks.map fin)[h]? = some true ↔ _
  rw [e0]
  exact ⟨fun z => z.2, fun z => ⟨(List.getElem?_eq_some_iff.mp e).1, z⟩⟩
theorem head_back {k : Nat} (hk : k < (mRows tbl hl).length) : ∃ s, (headsOf hl hl.length)[k]? = some s ∧ s < hl.length ∧ numOf hl s = k := by
  rw [mr_len] at hk
  have e : (headsOf hl hl.length)[k]? = some (headsOf hl hl.length)[k] := List.getElem?_eq_getElem hk
  exact ⟨_, e, (heads_mem.mp (List.mem_of_getElem? e)).1, num_of_head e⟩
/-- heads rise with their numbers -/
theorem num_mono {s t : Nat} (hs : isHead hl s = true) (ht : isHead hl t = true) (hsl : s < hl.length) (htl : t < hl.length) : s < t ↔ numOf hl s < numOf hl t := by
  have a : s ∈ headsOf hl hl.length := heads_mem.mpr ⟨hsl, isHead_iff.mp hs⟩
  have b : t ∈ headsOf hl hl.length := heads_mem.mpr ⟨htl, isHead_iff.mp ht⟩
  obtain ⟨i, hi⟩ := List.mem_iff_getElem?.mp a
  obtain ⟨j, hj⟩ := List.mem_iff_getElem?.mp b
  have ei := num_of_head hi
  have ej := num_of_head hj
  rw [ei, ej]
  have r := heads_rise hl hl.length
  obtain ⟨li, gi⟩ := List.getElem?_eq_some_iff.mp hi
  obtain ⟨lj, gj⟩ := List.getElem?_eq_some_iff.mp hj
  constructor
  · intro z
    rcases Nat.lt_trichotomy i j with y | y | y
    · exact y
    · subst y
      rw [gi] at gj
      omega
    · have := List.pairwise_iff_getElem.mp r j i lj li y
      omega
  · intro z
    have := List.pairwise_iff_getElem.mp r i j li lj z
    omega
theorem num_le_of {s t : Nat} (hs : s < hl.length) (ht : t < hl.length) (hh : isHead hl s = true) (h : numOf hl s ≤ numOf hl t) : s ≤ t := by
  obtain ⟨h', e, le, q⟩ := num_spec ht
  have hm := List.mem_of_getElem? e
  have hh' : isHead hl h' = true := isHead_iff.mpr (heads_mem.mp hm).2
  have nh : numOf hl h' = numOf hl t := num_of_head e
  have hl' := (heads_mem.mp hm).1
  by_cases z : s ≤ h'
  · omega
  · have := (num_mono hh' hh hl' hs).mp (by omega)
    omega
theorem BuiltOk.canon (b : BuiltOk n0 L R s0 fin M ks tbl hl) (k : TabOk ks.length L tbl) : Canon L M.rows M.ends := by
  have hlen := b.hlen
  have like := b.like
  rw [b.rows, b.ends]
  have h0 : 0 < hl.length := by
    rw [hlen]
    exact k.one
  have up : ∀ {k' : Nat}, k' < (mRows tbl hl).length → ∃ s, (headsOf hl hl.length)[k']? = some s ∧ s < ks.length ∧ numOf hl s = k' ∧ isHead hl s = true := fun {k'} hk => by
    obtain ⟨s, e, l, q⟩ := head_back hk
    exact ⟨s, e, by omega, q, isHead_iff.mpr (heads_mem.mp (List.mem_of_getElem? e)).2⟩
  refine ⟨by have := num_lt (tbl := tbl) h0; omega, fun r hr => ?_, fun e he => ?_, ?_, fun kk h1 h2 => ?_, fun s t hs ht hw => ?_⟩
  · obtain ⟨i, hi⟩ := List.mem_iff_getElem?.mp hr
    have hil := (List.getElem?_eq_some_iff.mp hi).1
    obtain ⟨s, e, ls, _, _⟩ := up hil
    obtain ⟨row, er, eg, lr, lt⟩ := k.at_ ls
    unfold mRows at hi
    rw [List.getElem?_map, e] at hi
    have hi : some ((tbl.getD s []).map (numOf hl)) = some r := hi
    rw [eg] at hi
    cases hi
    refine ⟨by rw [List.length_map]; exact lr, fun t ht => ?_⟩
    obtain ⟨u, hu, rfl⟩ := List.mem_map.mp ht
    have := lt u hu
    exact num_lt (by omega)
  · unfold mEnds at he
    rw [mr_len]
    exact List.mem_range.mp (List.mem_filter.mp he).1
  · unfold mEnds
    exact List.Pairwise.filter _ List.pairwise_lt_range
  · -- the first place with a number of kk or more is kk's
    obtain ⟨s, es, ls, ns, hs⟩ := up h2
    have hs1 : 1 ≤ s := by
      by_cases z : s = 0
      · subst z
        rw [num_zero h0] at ns
        omega
      · omega
    obtain ⟨r, c, hrs, ha, hb⟩ := b.wi.bfs s hs1 ls
    have hrl : r < ks.length := by omega
    have hcL : c < L := by
      obtain ⟨row, er, q⟩ := ha
      have := b.full row (List.mem_of_getElem? er)
      rw [← this]
      exact (List.getElem?_eq_some_iff.mp q).1
    obtain ⟨r0, er0, ler0, qr0⟩ := num_spec (hl := hl) (s := r) (by omega)
    have hr0m := List.mem_of_getElem? er0
    have hr0h : isHead hl r0 = true := isHead_iff.mpr (heads_mem.mp hr0m).2
    have nr0 : numOf hl r0 = numOf hl r := num_of_head er0
    have ad := (dl_num (fin := fin) k hlen like hrl hcL).2
    rw [at_dl (L := L) ha, ns] at ad
    refine ⟨numOf hl r, c, ?_, ad, fun r' c' v lt a' => ?_⟩
    · rw [← ns, ← nr0]
      exact (num_mono hr0h hs (by omega) (by omega)).mp (by omega)
    · -- an earlier place: its head's row stands earlier in the table
      have hr'l : r' < (mRows tbl hl).length := by
        obtain ⟨row, er, _⟩ := a'
        exact (List.getElem?_eq_some_iff.mp er).1
      obtain ⟨x, ex, lx, nx, hx⟩ := up hr'l
      have hc'L : c' < L := by
        obtain ⟨row, er, q⟩ := a'
        unfold mRows at er
        rw [List.getElem?_map, ex] at er
        have er : some ((tbl.getD x []).map (numOf hl)) = some row := er
        obtain ⟨rx, erx, egx, lrx, _⟩ := k.at_ lx
        rw [egx] at er
        cases er
        have := (List.getElem?_eq_some_iff.mp q).1
        rw [List.length_map] at this
        omega
      have dx := (dl_num (fin := fin) k hlen like lx hc'L).1
      rw [nx, at_dl (L := L) a'] at dx
      have ax := k.atT lx hc'L
      have xr : x < r ∨ (x = r ∧ c' < c) ∨ (x = r0 ∧ r0 < r ∧ c' < c) := by
        rcases lt with lt | ⟨l1, l2⟩
        · left
          have : x < r0 := (num_mono hx hr0h (by omega) (by omega)).mpr (by rw [nx, nr0]; exact lt)
          omega
        · have : x = r0 := head_uniq (List.mem_of_getElem? ex) hr0m (by
            have e1 : numOf hl x = numOf hl r0 := by rw [nx, l1, nr0]
            exact (num_eq (by omega) (by omega)).mp e1)
          subst this
          by_cases z : x = r
          · exact .inr (.inl ⟨z, l2⟩)
          · exact .inl (by omega)
      have small : dl tbl x c' < s := by
        rcases xr with y | y | y
        · exact hb x c' _ (.inl y) ax
        · exact hb x c' _ (.inr y) ax
        · exact hb x c' _ (.inl (by omega)) ax
      rw [dx, ← ns]
      have hdl := k.dl_lt lx hc'L
      by_cases z : numOf hl (dl tbl x c') < numOf hl s
      · exact z
      · have := num_le_of (hl := hl) (s := s) (t := dl tbl x c') (by omega) (by omega) hs (by omega)
        omega
  · obtain ⟨x, _, lx, nx, _⟩ := up hs
    obtain ⟨y, _, ly, ny, _⟩ := up ht
    rw [← nx, ← ny]
    refine (num_eq (by omega) (by omega)).mpr ((like x y lx ly).mpr fun w hw' => ?_)
    have := hw w hw'
    rw [← nx, ← ny, runs_num (fin := fin) k hlen like w x lx hw', runs_num (fin := fin) k hlen like w y ly hw', ends_num hlen like (runs_lt k w x lx hw'), ends_num hlen like (runs_lt k w y ly hw')] at this
    have l1 := runs_lt k w x lx hw'
    have l2 := runs_lt k w y ly hw'
    rw [List.getElem?_map, List.getElem?_map, List.getElem?_eq_getElem l1, List.getElem?_eq_getElem l2] at this ⊢
    simp only [Option.map_some, Option.some.injEq] at this ⊢
    exact Bool.eq_iff_iff.mpr this
/-- the words: read from s0 on -/
def runR (R : Nat → List Nat) (s : Nat) (w : List Nat) : Nat := w.foldl (fun s c => (R s).getD c 0) s
theorem ks_runs (b : BuiltOk n0 L R s0 fin M ks tbl hl) (k : TabOk ks.length L tbl) : ∀ (w : List Nat) (j s : Nat), ks[j]? = some s → (∀ c ∈ w, c < L) → ks[runs tbl j w]? = some (runR R s w)
  | [], _, _, h, _ => h
  | c :: w, j, s, h, hw => by
    have hc := hw c (List.mem_cons_self ..)
    have hj := (List.getElem?_eq_some_iff.mp h).1
    obtain ⟨row, er, q⟩ := k.atT hj hc
    obtain ⟨_, z⟩ := b.wi.row j s row h er
    obtain ⟨t, y1, y2⟩ := z c _ q
    have e1 : (R s).getD c 0 = t := by
      rw [List.getD_eq_getElem?_getD, y1]
      rfl
    show ks[runs tbl (dl tbl j c) w]? = some (runR R ((R s).getD c 0) w)
    rw [e1]
    exact ks_runs b k w _ t y2 fun d hd => hw d (List.mem_cons_of_mem _ hd)
theorem BuiltOk.words (b : BuiltOk n0 L R s0 fin M ks tbl hl) (k : TabOk ks.length L tbl) (w : List Nat) (hw : ∀ c ∈ w, c < L) : runs M.rows 0 w ∈ M.ends ↔ fin (runR R s0 w) = true := by
  have h0 : 0 < hl.length := by
    rw [b.hlen]
    exact k.one
  rw [b.rows, b.ends]
  have e : runs (mRows tbl hl) 0 w = numOf hl (runs tbl 0 w) := by
    have := runs_num (fin := fin) k b.hlen b.like w 0 k.one hw
    rw [num_zero h0] at this
    exact this
  rw [e, ends_num b.hlen b.like (runs_lt k w 0 k.one hw), List.getElem?_map, ks_runs b k w 0 s0 b.wi.one hw]
  simp
end
end LH

namespace LH
open PySem PySem.Spec PyProof.Rows L2 NdefX LamX LU
/-! ### a walk over keys that are any data -/
theorem nvsS {H : Hp} : ∀ {ks : List NestedKey} {vs : List V} {k : NestedKey} {v : V}, NVs H ks vs → NV H k v → NVs H (ks ++ [k]) (vs ++ [v])
  | _, _, _, _, .nil, n => .cons n .nil
  | _, _, _, _, .cons a t, n => .cons a (nvsS t n)
theorem nvsL {H : Hp} : ∀ {ks : List NestedKey} {vs : List V}, NVs H ks vs → vs.length = ks.length
  | _, _, .nil => rfl
  | _, _, .cons _ t => congrArg (· + 1) (nvsL t)
theorem nvsA {H : Hp} : ∀ {ks : List NestedKey} {vs : List V}, NVs H ks vs → ∀ {i : Nat} {k : NestedKey}, ks[i]? = some k → ∃ v, vs[i]? = some v ∧ NV H k v
  | _, _, .nil, i, k, e => by simp at e
  | _, _, .cons h t, 0, k, e => by
    cases e
    exact ⟨_, rfl, h⟩
  | _, _, .cons h t, i + 1, k, e => by
    obtain ⟨v, h1, h2⟩ := nvsA t (i := i) (k := k) (by simpa using e)
    exact ⟨v, by simpa using h1, h2⟩
abbrev nU (U : Nat → NestedKey) (ks : List Nat) : List (NestedKey × V) := ks.zipIdx.map fun (p : Nat × Nat) => (U p.1, V.int (p.2 : Int))
theorem nU_snoc (U : Nat → NestedKey) (ks : List Nat) (t : Nat) : nU U (ks ++ [t]) = nU U ks ++ [(U t, V.int (ks.length : Int))] := by
  show List.map _ (ks ++ [t]).zipIdx = _
  rw [List.zipIdx_append, List.map_append]
  simp
theorem valV_nUU (U : Nat → NestedKey) (x : Nat) : ∀ (ks : List Nat) (k : Nat), (∀ y ∈ ks, U y = U x → y = x) → valV ((ks.zipIdx k).map fun (p : Nat × Nat) => (U p.1, V.int (p.2 : Int))) (U x) = if x ∈ ks then some (.int ((k + ks.idxOf x : Nat) : Int)) else none
  | [], _, _ => rfl
  | h :: r, k, inj => by
    rw [List.zipIdx_cons, List.map_cons, List.idxOf_cons]
    by_cases q : h = x
    · subst q
      rw [valV_pos rfl, if_pos (List.mem_cons_self ..)]
      simp
    · have ne : ¬ (((h, k) : Nat × Nat) |> fun p => (U p.1, V.int (p.2 : Int))).1 = U x := fun z => q (inj h (List.mem_cons_self ..) z)
      rw [valV_neg ne, valV_nUU U x r (k + 1) fun y hy => inj y (List.mem_cons_of_mem _ hy), show (h == x) = false from beq_eq_false_iff_ne.mpr q]
      have : (x ∈ h :: r) ↔ x ∈ r := ⟨fun z => (List.mem_cons.mp z).elim (fun y => absurd y.symm q) id, List.mem_cons_of_mem _⟩
      by_cases e : x ∈ r
      · rw [if_pos e, if_pos (this.mpr e)]
        show some (V.int ((k + 1 + r.idxOf x : Nat) : Int)) = some (V.int ((k + (r.idxOf x + 1) : Nat) : Int))
        congr 2
        omega
      · rw [if_neg e, if_neg (fun z => e (this.mp z))]
theorem valV_nU (U : Nat → NestedKey) (x : Nat) (ks : List Nat) (inj : ∀ y ∈ ks, U y = U x → y = x) : valV (nU U ks) (U x) = if x ∈ ks then some (.int ((ks.idxOf x : Nat) : Int)) else none := by
  have := valV_nUU U x ks 0 inj
  rw [Nat.zero_add] at this
  exact this
theorem nU_len (U : Nat → NestedKey) (ks : List Nat) : (nU U ks).length = ks.length := by
  show (List.map _ _).length = _
  rw [List.length_map, List.length_zipIdx]
theorem same_freeU {H H' : Hp} {p : Addr} (h : H p = none) (e : ∀ b, b ≠ p → H' b = H b) : Same H H' := fun b o q => by
  rw [e b (ne_of_none q h)]
  exact q
section
variable {P : Program} {w : World} {K : PySem.W.Frag} {mg : Str → Option Value} {base : Heap}
def sp_walkedU (P : Program) (w : World) (K : PySem.W.Frag) (mg : Str → Option Value) (base : Heap) : Sp := fun vs H Q _ => ∃ (v0 : V) (f : Addr) (F : NF) (spf : Sp) (U : Nat → NestedKey) (s0 n0 L : Nat) (R : Nat → List Nat), vs = [v0, .ref f] ∧ NV H (U s0) v0 ∧ H f = some (FnO f F) ∧ Callable P w K mg base 4 f spf ∧ s0 < n0 ∧ n0 ≤ 1000000 ∧ L ≤ 5 ∧ (∀ s, s < n0 → (U s).depth ≤ 8) ∧ (∀ s t, s < n0 → t < n0 → U s = U t → s = t) ∧ (∀ s, s < n0 → (R s).length = L ∧ ∀ t ∈ R s, t < n0) ∧
  (∀ (s : Nat) (v : V) (H' : Hp) (Q' : VK), s < n0 → Same H H' → NV H' (U s) v → (∀ H'' b us, Same H' H'' → H' b = none → H'' b = some (.lst us) → NVs H'' ((R s).map U) us → Q' (.ref b) H'') → spf [v] H' Q' E0) ∧
  ∀ H' p ka tb kvs ras ks tbl, Same H H' → H' p = some (.tup [.ref ka, .ref tb]) → H' ka = some (.lst kvs) → NVs H' (ks.map U) kvs → LolAt H' tb ras tbl → WI n0 L R s0 ks tbl → tbl.length = ks.length → (∀ r ∈ tbl, r.length = L) → Q (.ref p) H'
theorem ok_walkedU (T : TX K mg) : FnOk P w K mg base CX0 5 T.a_walked T.fd_walked ["start", "follow"] (sp_walkedU P w K mg base) := by
  refine T.F_walked.ok sc_walked (fun vs H Q E h => ?_) (fun cdv A outer s H vs Q E hr h => ?_)
  · obtain ⟨v0, f, F, spf, U, s0, n0, L, R, rfl, _⟩ := h
    rfl
  · obtain ⟨v0, f, F, spf, U, s0, n0, L, R, rfl, hp0, hf, ca, h0, hbig, hL, hdep, hinj, hR, hsp, q⟩ := h
    refine ⟨_, (pss_cons (ps_set (i := 2) sc_walked.nd rfl (Or.inl rfl) (LU.pe_udisp rfl hr.units (pv 0) pe_int))
      (pss_cons (ps_set (i := 3) sc_walked.nd rfl (Or.inl rfl) (pe_lst (pa_cons (pv 0) pa_nil)))
      (pss_cons (ps_set (i := 4) sc_walked.nd rfl (Or.inl rfl) (pe_lst pa_nil))
      (pss_cons (ps_while PassesOwn.never (pt_cmpR op_lt (pe_callB (call_lenK K rfl) (by rfl) T.m_len (by decide +kernel) (pa_cons (pv 4) pa_nil)) (pe_callB (call_lenK K rfl) (by rfl) T.m_len (by decide +kernel) (pa_cons (pv 3) pa_nil)) (nomark _))
        (pss_cons (ps_set (i := 5) sc_walked.nd rfl (Or.inl rfl) (pe_lst pa_nil))
          (pss_cons (ps_set (i := 6) sc_walked.nd rfl (Or.inl rfl) (pe_callV (k := 4) (i := 1) P w K mg base rfl rfl rfl rfl rfl (hr.mono (by decide)) rfl (by first | exact Or.inl rfl | exact Or.inr (Or.inl rfl) | exact Or.inr (Or.inr rfl)) (pa_cons (pe_ix (ix_listK K rfl) (pv 3) (pe_callB (call_lenK K rfl) (by rfl) T.m_len (by decide +kernel) (pa_cons (pv 4) pa_nil)) (fun _ _ => rfl)) pa_nil)))
          (pss_cons (ps_for PassesOwn.never rfl (pi_listK K rfl (pv 6)) (pg_name (i := 7) sc_walked.nd rfl (Or.inl rfl))
            (C8.pss_cut (ps_if (pt_cmp (LU.pc_unotin rfl hr.units (pv 7) (pv 2)))
                (pss_cons (LU.ps_uput rfl hr.units (pv 2) (pv 7) (pe_callB (call_lenK K rfl) (by rfl) T.m_len (by decide +kernel) (pa_cons (pv 3) pa_nil)) rfl)
                  (pss_one (ps_expr (pe_bmK K rfl PySem.F.plainAttrs_list PySem.F.slot_list_append PySem.F.type_list_append mt_append (pv 3) (pa_cons (pv 7) pa_nil)))))
                pss_nil)
              (pss_one (ps_expr (pe_bmK K rfl PySem.F.plainAttrs_list PySem.F.slot_list_append PySem.F.type_list_append mt_append (pv 5) (pa_cons (LU.pe_uget rfl hr.units (pv 2) (pv 7) (fun _ _ => rfl)) pa_nil))))))
          (pss_one (ps_expr (pe_bmK K rfl PySem.F.plainAttrs_list PySem.F.slot_list_append PySem.F.type_list_append mt_append (pv 4) (pa_cons (pv 5) pa_nil))))))))
      (pss_one (ps_ret (pe_tup (pa_cons (pv 3) (pa_cons (pv 4) pa_nil))))))))), ?_⟩
    have sl : ∀ m, m ≤ 1000000 → m < sizeLine := fun m hm => Nat.lt_of_le_of_lt hm (by decide)
    -- numbers, keys, table
    refine fun nm nnm H0 u0 r0 => ⟨v0, rfl, u0, U s0, hp0.mono (Tups.same (same_freeU nnm r0)), hdep s0 h0, fun H1 pu => ?_⟩
    have r1 : ∀ b, b ≠ nm → H1 b = H b := fun b hb => (pu.2 b hb).trans (r0 b hb)
    have sA : Same H H1 := same_freeU nnm r1
    have u1 : UAt w H1 nm (nU U [s0]) := pu.1
    refine ⟨v0, rfl, by show 1 ≤ sizeLine; decide, fun ka nka => ⟨by show 0 ≤ sizeLine; decide, fun ta nta => ?_⟩⟩
    have d1 : nm ≠ ka := u1.ne_none nka
    have u2 := u1.same (same_new (o := .lst [v0]) nka)
    have d2 : nm ≠ ta := u2.ne_none nta
    have d3 : ka ≠ ta := ne_of_none upd_same nta
    have fka : H ka = none := sA.free nka
    have sm0 : Same H (upd H1 ka (.lst [v0])) := sA.trans (same_new nka)
    have fta : H ta = none := sm0.free nta
    -- while
    refine ⟨fun m σ H' => ∃ (ks : List Nat) (kvs : List V) (tbl : List (List Nat)) (ras : List Addr) (y5 y6 y7 : Option V), m + tbl.length = n0 + 1 ∧ σ = [some v0, some (.ref f), some (.ref nm), some (.ref ka), some (.ref ta), y5, y6, y7] ∧ Same H H' ∧ UAt w H' nm (nU U ks) ∧ H' ka = some (.lst kvs) ∧ NVs H' (ks.map U) kvs ∧ LolAt H' ta ras tbl ∧ WI n0 L R s0 ks tbl ∧ (∀ r ∈ tbl, r.length = L) ∧ (∀ a ∈ ras, H a = none ∧ a ≠ ta ∧ a ≠ ka),
      ⟨n0 + 1, [s0], [v0], [], [], none, none, none, rfl, rfl, sm0.trans (same_new nta), u2.same (same_new nta), same_new nta _ _ upd_same, .cons (hp0.mono (Tups.same (sm0.trans (same_new nta)))) .nil, ⟨upd_same, rfl, fun i b w x => by simp at x⟩, WI.start h0, (fun _ h => nomatch h), fun _ h => nomatch h⟩, fun m σ H1 hW => ?_⟩
    obtain ⟨ks, kvs, tbl, ras, y5, y6, y7, hm, rfl, sm1, en, ek1, pk1, ht1, wi, full, fr⟩ := hW
    have hmany := wi.many
    have hrl : ras.length = tbl.length := ht1.2.1
    have hkl : kvs.length = ks.length := by rw [nvsL pk1, List.length_map]
    refine ⟨.ref ta, rfl, ta, _, rfl, .inl (.inl (.inl ht1.1)), .ref ka, rfl, ka, _, rfl, .inl (.inl (.inl ek1)), _, _, rfl, rfl, _, rfl, ite2 (fun z => ?_) (fun z => ?_)⟩
    · have hlt : tbl.length < ks.length := by
        have := of_decide_eq_true z
        rw [List.length_map, hrl, hkl] at this
        omega
      refine ⟨fun σ' H' => ∃ (ks : List Nat) (kvs : List V) (row : List Nat) (ras' : List Addr) (y5 y6 y7 : Option V), σ' = [some v0, some (.ref f), some (.ref nm), some (.ref ka), some (.ref ta), y5, y6, y7] ∧ Same H H' ∧ UAt w H' nm (nU U ks) ∧ H' ka = some (.lst kvs) ∧ NVs H' (ks.map U) kvs ∧ LolAt H' ta ras' (tbl ++ [row]) ∧ WI n0 L R s0 ks (tbl ++ [row]) ∧ row.length = L ∧ (∀ a ∈ ras', H a = none ∧ a ≠ ta ∧ a ≠ ka), fun σ' H' hN => ?_, ?_⟩
      · obtain ⟨ks', kvs', row, ras', y5, y6, y7, r1, r2, r3, r4, r4', r5, r6, r7, r8⟩ := hN
        have := r6.le
        have hm' := r6.many
        rw [List.length_append] at this
        have this : tbl.length + 1 ≤ ks'.length := this
        refine ⟨m - 1, by omega, ks', kvs', tbl ++ [row], ras', y5, y6, y7, ?_, r1, r2, r3, r4, r4', r5, r6, mem_snoc full r7, r8⟩
        rw [List.length_append]
        show m - 1 + (tbl.length + 1) = n0 + 1
        omega
      -- row = []
      refine ⟨by show 0 ≤ sizeLine; decide, fun ra nra => ?_⟩
      have sm2 : Same H (upd H1 ra (.lst [])) := sm1.trans (same_new nra)
      have s2 : Same H1 (upd H1 ra (.lst [])) := same_new nra
      have era : (upd H1 ra (.lst [])) ra = some (.lst (vi [])) := upd_same
      have fra : H ra = none := sm1.free nra
      have ra1 : nm ≠ ra := en.ne_none nra
      have ra2 : ka ≠ ra := ne_of_none ek1 nra
      have ra3 : ta ≠ ra := ne_of_none ht1.1 nra
      have ra4 : ∀ a ∈ ras, a ≠ ra := fun a ha e => by
        obtain ⟨i, hi⟩ := List.mem_iff_getElem?.mp ha
        have hil : i < tbl.length := by
          rw [← hrl]
          exact (List.getElem?_eq_some_iff.mp hi).1
        have := ht1.2.2 i a _ hi (List.getElem?_eq_getElem hil)
        exact ne_of_none this nra e
      have en2 := en.same s2
      have ek2 := s2 _ _ ek1
      have pk2 := pk1.mono (Tups.same s2)
      have ht2 := ht1.same s2
      generalize upd H1 ra (.lst []) = H2 at sm2 s2 era en2 ek2 pk2 ht2
      have hks : ks[tbl.length]? = some ks[tbl.length] := List.getElem?_eq_getElem hlt
      generalize ks[tbl.length] = sx at hks
      have hsx : sx < n0 := wi.lt sx (List.mem_of_getElem? hks)
      obtain ⟨hRl, hRt⟩ := hR sx hsx
      obtain ⟨vx, hvk, hpx⟩ := nvsA pk2 (i := tbl.length) (k := U sx) (by rw [List.getElem?_map, hks]; rfl)
      rw [← hrl] at hvk
      -- behind = follow(keys[len(table)])
      refine ⟨f, F, spf, rfl, sm2 _ _ hf, ca, .ref ka, rfl, .ref ta, rfl, ta, _, rfl, .inl (.inl (.inl ht2.1)), ka, _, _, vx, rfl, rfl, .inl (.inl ek2), ?_, sm2 _ _ hf, hsp sx vx H2 _ hsx sm2 hpx fun H3 pb us s3 npb eb pbs => ?_⟩
      · rw [List.length_map]
        exact atI_nat hvk
      have wi0 := wi.open_ hlt
      have b1 : nm ≠ pb := en2.ne_none npb
      have b2 : ka ≠ pb := ne_of_none ek2 npb
      have b3 : ra ≠ pb := ne_of_none era npb
      have hbl : us.length = L := by rw [nvsL pbs, List.length_map, hRl]
      -- for key in behind
      refine ⟨.ref pb, rfl, pb, rfl, ⟨_, .inl (.inl eb)⟩, ?_⟩
      refine for_it (walk_list (K := K) (a := pb) (xs := us)) (fun c σ H' => (∃ ks kvs cur, Same H H' ∧ UAt w H' nm (nU U ks) ∧ H' ka = some (.lst kvs) ∧ NVs H' (ks.map U) kvs ∧ LolAt H' ta ras tbl ∧ H' ra = some (.lst (vi cur)) ∧ H' pb = some (.lst us) ∧ NVs H' ((R sx).map U) us ∧ cur.length = c ∧ ks[tbl.length]? = some sx ∧ WI n0 L R s0 ks (tbl ++ [cur])) ∧ ∃ y7, σ = [some v0, some (.ref f), some (.ref nm), some (.ref ka), some (.ref ta), some (.ref ra), some (.ref pb), y7]) ⟨⟨ks, kvs, [], sm2.trans s3, en2.same s3, s3 _ _ ek2, pk2.mono (Tups.same s3), ht2.same s3, s3 _ _ era, eb, pbs, rfl, hks, wi0⟩, y7, rfl⟩ (fun c σ H' _ hW => ?_) (fun c x σ H4 H4' hc hW hY => ?_) (fun σ H4 hW => ?_)
      · obtain ⟨⟨_, _, _, _, _, _, _, _, _, z, _⟩, _⟩ := hW
        exact .inl (.inl z)
      · obtain ⟨⟨ks, kvs, cur, sm4, en4, ek4, pk4, ht4, er4, eb4, pb4, lc, hk4, wi4⟩, y7, rfl⟩ := hW
        obtain ⟨rfl, hx⟩ := hY
        have hcl : c < (R sx).length := by
          have := (List.getElem?_eq_some_iff.mp hx).1
          rw [hRl, ← hbl]
          exact this
        have ht : (R sx)[c]? = some (R sx)[c] := List.getElem?_eq_getElem hcl
        generalize (R sx)[c] = t at ht
        obtain ⟨x', hx', nx⟩ := nvsA pb4 (i := c) (k := U t) (by rw [List.getElem?_map, ht]; rfl)
        obtain rfl : x' = x := Option.some.inj (hx'.symm.trans hx)
        have htn := hRt t (List.mem_of_getElem? ht)
        have hdt := hdep t htn
        have hm4 := wi4.many
        have hkl4 : kvs.length = ks.length := by rw [nvsL pk4, List.length_map]
        have inj : ∀ {ks' : List Nat}, (∀ y ∈ ks', y < n0) → ∀ y ∈ ks', U y = U t → y = t := fun hl y hy e => hinj y t (hl y hy) htn e
        have nlol : ∀ {H5 : Hp}, (∀ b, b ≠ nm → b ≠ ka → b ≠ ra → H5 b = H4' b) → LolAt H5 ta ras tbl := fun {H5} hh => by
          refine ⟨by rw [hh ta (Ne.symm d2) (Ne.symm d3) ra3]; exact ht4.1, ht4.2.1, fun i b w' x' y' => ?_⟩
          have z := ht4.2.2 i b w' x' y'
          rw [hh b (en4.ne z (fun φ q => by cases q)).symm (fr b (List.mem_of_getElem? x')).2.2 (ra4 b (List.mem_of_getElem? x'))]
          exact z
        refine ⟨fun σ' H' => ∃ ks' kvs', (ks' = ks ∨ (ks' = ks ++ [t] ∧ t ∉ ks)) ∧ t ∈ ks' ∧ (∀ y ∈ ks', y < n0) ∧ σ' = [some v0, some (.ref f), some (.ref nm), some (.ref ka), some (.ref ta), some (.ref ra), some (.ref pb), some x'] ∧ Same H H' ∧ UAt w H' nm (nU U ks') ∧ H' ka = some (.lst kvs') ∧ NVs H' (ks'.map U) kvs' ∧ Tups H4' H' ∧ (∀ b, b ≠ nm → b ≠ ka → H' b = H4' b), ?_, fun σ' H' hM => ?_⟩
        · refine ⟨x', rfl, .ref nm, rfl, nm, _, U t, rfl, en4, nx, hdt, _, rfl, ?_⟩
          rw [valV_nU U t ks (inj wi4.lt)]
          by_cases hin : t ∈ ks
          · rw [if_pos hin]
            refine iteF ?_
            exact ⟨ks, kvs, .inl rfl, hin, wi4.lt, rfl, sm4, en4, ek4, pk4, Tups.refl _, fun _ _ _ => rfl⟩
          · rw [if_neg hin]
            refine iteT ?_
            have ep : putK (nU U ks) (U t) (V.int (kvs.length : Int)) = nU U (ks ++ [t]) := by
              rw [putK_new, nU_snoc, hkl4]
              rw [valV_nU U t ks (inj wi4.lt), if_neg hin]
            refine ⟨.ref ka, rfl, ka, _, rfl, .inl (.inl (.inl ek4)), .ref nm, rfl, x', rfl, nm, _, U t, rfl, en4, nx, hdt, by rw [nU_len]; exact sl _ (by omega), fun H5 p5 => ?_⟩
            rw [ep] at p5
            have t5 : Tups H4' H5 := UPut.tups en4 p5
            have ek5 : H5 ka = some (.lst kvs) := by
              rw [p5.2 ka (Ne.symm d1)]
              exact ek4
            have pk5 : NVs H5 ((ks ++ [t]).map U) (kvs ++ [x']) := by
              rw [List.map_append]
              exact nvsS (pk4.mono t5) (nx.mono t5)
            refine ⟨.ref ka, rfl, .inl ⟨rfl, _, .inl (.inl ek5)⟩, x', rfl, ka, _, _, rfl, rfl, ek5, by rw [hkl4]; exact sl _ (by omega), ks ++ [t], kvs ++ [x'], .inr ⟨rfl, hin⟩, List.mem_append_right _ (List.mem_singleton.mpr rfl), mem_snoc wi4.lt htn, rfl, ?_, ?_, ?_, ?_, ?_, ?_⟩
            · intro b o e
              rw [upd_ne (ne_of_none e fka), p5.2 b (ne_of_none e nnm)]
              exact sm4 _ _ e
            · exact p5.1.mono (Tups.lst ek5) fun o e => by rw [upd_ne d1]; exact e
            · rw [upd_same]
            · exact pk5.mono (Tups.lst ek5)
            · exact t5.trans (Tups.lst ek5)
            · intro b h1 h2
              rw [upd_ne h2, p5.2 b h1]
        · obtain ⟨ks', kvs', hk', htin, hlt', rfl, sm5, en5, ek5, pk5, t5, rest⟩ := hM
          have er5 : H' ra = some (.lst (vi cur)) := by
            rw [rest ra (Ne.symm ra1) (Ne.symm ra2)]
            exact er4
          have hvt : ks'[ks'.idxOf t]? = some t := by
            have := List.idxOf_lt_length_iff.mpr htin
            rw [List.getElem?_eq_getElem this, List.getElem_idxOf]
          have hk5 : ks'[tbl.length]? = some sx := by
            rcases hk' with rfl | ⟨rfl, _⟩
            · exact hk4
            · rw [List.getElem?_append_left (List.getElem?_eq_some_iff.mp hk4).1]
              exact hk4
          -- row.append(numbers[key])
          refine ⟨.ref ra, rfl, .inl ⟨rfl, _, .inl (.inl er5)⟩, .ref nm, rfl, x', rfl, nm, _, U t, .int (ks'.idxOf t : Nat), rfl, en5, nx.mono t5, hdt, ?_, ra, _, _, rfl, rfl, er5, by rw [List.length_map]; exact sl _ (by omega), ⟨ks', kvs', cur ++ [ks'.idxOf t], ?_, ?_, ?_, pk5.mono (Tups.lst er5), ?_, ?_, ?_, (pb4.mono t5).mono (Tups.lst er5), ?_, hk5, ?_⟩, _, rfl⟩
          · rw [valV_nU U t ks' (inj hlt'), if_pos htin]
          · intro b o e
            rw [upd_ne (ne_of_none e fra)]
            exact sm5 _ _ e
          · exact en5.mono (Tups.lst er5) fun o e => by rw [upd_ne ra1]; exact e
          · rw [upd_ne ra2]
            exact ek5
          · exact nlol fun b h1 h2 h3 => by
              rw [upd_ne h3]
              exact rest b h1 h2
          · rw [upd_same, vi_snoc]
          · rw [upd_ne (Ne.symm b3), rest pb (Ne.symm b1) (Ne.symm b2)]
            exact eb4
          · rw [List.length_append, lc]
            rfl
          · exact wi4.put hk4 (by rw [lc]; exact ht) htn (by omega) hvt hk'
      · obtain ⟨⟨ks, kvs, cur, sm4, en4, ek4, pk4, ht4, er4, eb4, pb4, lc, hk4, wi4⟩, y7, rfl⟩ := hW
        rw [hbl] at lc
        have nt : ∀ a ∈ ras, a ≠ ta := fun a ha => (fr a ha).2.1
        -- table.append(row)
        refine ⟨.ref ta, rfl, .inl ⟨rfl, _, .inl (.inl ht4.1)⟩, .ref ra, rfl, ta, _, _, rfl, rfl, ht4.1, by rw [List.length_map, hrl]; exact sl _ (by omega), ks, kvs, cur, ras ++ [ra], _, _, _, rfl, ?_, ?_, ?_, pk4.mono (Tups.lst ht4.1), ?_, wi4, lc, ?_⟩
        · intro b o e
          rw [upd_ne (ne_of_none e fta)]
          exact sm4 _ _ e
        · exact en4.mono (Tups.lst ht4.1) fun o e => by rw [upd_ne d2]; exact e
        · rw [upd_ne d3]
          exact ek4
        · rw [vr_snoc]
          exact lol_snoc ht4 er4 nt (Ne.symm ra3)
        · exact mem_snoc fr ⟨fra, Ne.symm ra3, Ne.symm ra2⟩
    · have hle := wi.le
      have hlen : tbl.length = ks.length := by
        have : ¬ (((vr ras).length : Nat) : Int) < (kvs.length : Nat) := fun y => z (decide_eq_true y)
        rw [List.length_map, hrl, hkl] at this
        omega
      refine ⟨.ref ka, rfl, .ref ta, rfl, by show 2 ≤ sizeLine; decide, fun p np => ?_⟩
      exact q _ p ka ta kvs ras ks tbl (sm1.trans (same_new np)) upd_same (same_new np _ _ ek1) (pk1.mono (Tups.same (same_new np))) (ht1.same (same_new np)) wi hlen full
end
end LH

namespace LH
open PySem PySem.Spec PyProof.Rows L2 NdefX LamX LU
section
variable {P : Program} {w : World} {K : PySem.W.Frag} {mg : Str → Option Value} {base : Heap}
def sp_builtU (P : Program) (w : World) (K : PySem.W.Frag) (mg : Str → Option Value) (base : Heap) : Sp := fun vs H Q _ => ∃ (z : Str) (v0 : V) (f g : Addr) (F G : NF) (spf spg : Sp) (U : Nat → NestedKey) (s0 n0 L : Nat) (R : Nat → List Nat) (fin : Nat → Bool), vs = [.str z, v0, .ref f, .ref g] ∧ NV H (U s0) v0 ∧ H f = some (FnO f F) ∧ Callable P w K mg base 4 f spf ∧ H g = some (FnO g G) ∧ Callable P w K mg base 4 g spg ∧
  s0 < n0 ∧ n0 ≤ 1000000 ∧ 1 ≤ L ∧ L ≤ 5 ∧ (∀ s, s < n0 → (U s).depth ≤ 8) ∧ (∀ s t, s < n0 → t < n0 → U s = U t → s = t) ∧ (∀ s, s < n0 → (R s).length = L ∧ ∀ t ∈ R s, t < n0) ∧
  (∀ (s : Nat) (v : V) (H' : Hp) (Q' : VK), s < n0 → Same H H' → NV H' (U s) v → (∀ H'' b us, Same H' H'' → H' b = none → H'' b = some (.lst us) → NVs H'' ((R s).map U) us → Q' (.ref b) H'') → spf [v] H' Q' E0) ∧
  (∀ (s : Nat) (v : V) (H' : Hp) (Q' : VK), s < n0 → Same H H' → NV H' (U s) v → (∀ H'', Same H' H'' → Q' (.bl (fin s)) H'') → spg [v] H' Q' E0) ∧
  ∀ H' p (M : Mach) ks tbl hl, Same H H' → MachAt H' p M → M.z = z → BuiltOk n0 L R s0 fin M ks tbl hl → Q (.ref p) H'
theorem ok_builtU (T : TX K mg) : FnOk P w K mg base CX0 6 T.a_built T.fd_built ["letters", "start", "follow", "is_end"] (sp_builtU P w K mg base) := by
  have G_walked : FnOk P w K mg base CX0 5 T.a_walked T.fd_walked ["start", "follow"] (sp_walkedU P w K mg base) := ok_walkedU T
  have G_parted : FnOk P w K mg base CX0 2 T.a_parted T.fd_parted ["table", "ended"] sp_parted := ok_parted T
  have G_merged : FnOk P w K mg base CX0 1 T.a_merged T.fd_merged ["letters", "table", "ended", "homes"] sp_merged := ok_merged T
  refine T.F_built.ok sc_built (fun vs H Q E h => ?_) (fun cdv A outer s H vs Q E hr h => ?_)
  · obtain ⟨z, v0, f, g, F, G, spf, spg, U, s0, n0, L, R, fin, rfl, _⟩ := h
    rfl
  · obtain ⟨z, v0, f, g, F, G, spf, spg, U, s0, n0, L, R, fin, rfl, hp0, hf, caf, hg, cag, h0, hbig, hL1, hL5, hdep, hinj, hR, hspf, hspg, q⟩ := h
    refine ⟨_, (pss_cons (ps_asg (pe_call G_walked (hr.mono (by decide)) (by rfl) T.g_walked T.F_walked.kp T.b_walked .nil pass0 (pa_cons (pv 1) (pa_cons (pv 2) pa_nil))) (pg_tupK (n := 2) K rfl (by rfl) (pgs_cons (pg_name (i := 4) sc_built.nd rfl (Or.inl rfl)) (pgs_cons (pg_name (i := 5) sc_built.nd rfl (Or.inl rfl)) pgs_nil))))
      (pss_cons (ps_setLc (i := 6) (own := [("key", 7)]) (g := gName 7) (tt := tYes) (by rfl) sc_built.nd rfl rfl (sw_true rfl rfl rfl (by decide +kernel)) (pi_listK K rfl (pv 4)) (blkOk_by (own := [("key", 7)]) (N := N_built) (by kernel_rfl)) (fun _ _ _ _ _ => (pg_name (i := 7) sc_built.nd rfl (by first | exact Or.inl rfl | exact Or.inr rfl))) (fun _ _ _ _ _ => pts_nil) (fun _ _ _ _ _ => (pe_callV (k := 4) (i := 3) P w K mg base rfl rfl rfl rfl rfl (hr.mono (by decide)) rfl (by first | exact Or.inl rfl | exact Or.inr (Or.inl rfl) | exact Or.inr (Or.inr rfl)) (pa_cons (pv 7) pa_nil))))
      (pss_one (ps_ret (pe_call G_merged (hr.mono (by decide)) (by rfl) T.g_merged T.F_merged.kp T.b_merged .nil pass0 (pa_cons (pv 0) (pa_cons (pv 5) (pa_cons (pv 6) (pa_cons (pe_call G_parted (hr.mono (by decide)) (by rfl) T.g_parted T.F_parted.kp T.b_parted .nil pass0 (pa_cons (pv 5) (pa_cons (pv 6) pa_nil))) pa_nil))))))))), ?_⟩
    -- keys, table = walked(start, follow)
    refine ⟨v0, rfl, .ref f, rfl, v0, f, F, spf, U, s0, n0, L, R, rfl, hp0, hf, caf, h0, hbig, hL5, hdep, hinj, hR, hspf, fun H1 p ka tb kvs ras ks tbl sm1 ep ek pk et wi len full => ?_⟩
    refine ⟨p, [.ref ka, .ref tb], rfl, .inl (.inl ep), rfl, .ref ka, [.ref tb], rfl, .ref tb, [], rfl, rfl, ?_⟩
    have tk := BuiltOk.tab wi len full hL1 hL5 hbig
    have hm := wi.many
    have hkl : kvs.length = ks.length := by rw [nvsL pk, List.length_map]
    -- ended
    refine ⟨.ref ka, rfl, ka, rfl, ⟨_, .inl (.inl ek)⟩, fun D nD => ?_⟩
    have fD : H D = none := sm1.free nD
    refine lc_it (walk_list (K := K) (a := ka) (xs := kvs)) (fun i H' => Same H1 H' ∧ H' D = some (.lst (((ks.take i).map fin).map V.bl))) ⟨same_new nD, upd_same⟩ (fun i H' _ hW => .inl (.inl (hW.1 _ _ ek))) (fun i x H2 H2' hi hW hY => ?_) (fun H2 hW => ?_)
    · obtain ⟨s2, e2⟩ := hW
      obtain ⟨rfl, hx⟩ := hY
      rw [hkl] at hi
      have ht : ks[i]? = some ks[i] := List.getElem?_eq_getElem hi
      generalize ks[i] = t at ht
      obtain ⟨x', hx', nx⟩ := nvsA pk (i := i) (k := U t) (by rw [List.getElem?_map, ht]; rfl)
      obtain rfl : x' = x := Option.some.inj (hx'.symm.trans hx)
      refine ⟨rfl, lcyes ?_⟩
      refine ⟨g, G, spg, rfl, s2 _ _ (sm1 _ _ hg), cag, x', rfl, s2 _ _ (sm1 _ _ hg), hspg t x' H2' _ (wi.lt t (List.mem_of_getElem? ht)) (sm1.trans s2) (nx.mono (Tups.same s2)) fun H3 s3 => ?_⟩
      refine ⟨_, s3 _ _ e2, ?_, fun b o eb => ?_, ?_⟩
      · rw [List.length_map, List.length_map, List.length_take]
        exact Nat.lt_of_le_of_lt (show _ ≤ 1000000 by omega) (by decide)
      · rw [upd_ne (ne_of_none eb nD)]
        exact s3 _ _ (s2 _ _ eb)
      · rw [upd_same, take_snoc ht, List.map_append, List.map_append]
        rfl
    · obtain ⟨s2, e2⟩ := hW
      have etk : ks.take kvs.length = ks := List.take_of_length_le (by rw [hkl]; exact Nat.le_refl _)
      rw [etk] at e2
      have lbs : (ks.map fin).length = ks.length := List.length_map ..
      -- merged(letters, table, ended, parted(table, ended))
      refine ⟨.str z, rfl, .ref tb, rfl, .ref D, rfl, .ref tb, rfl, .ref D, rfl, tb, D, ras, tbl, ks.map fin, ks.length, L, rfl, et.same s2, tk, e2, lbs, fun H3 ho hl s3 fho eho lhl like => ?_⟩
      refine ⟨z, tb, D, ho, ras, tbl, ks.map fin, hl, ks.length, L, rfl, (et.same s2).same s3, tk, s3 _ _ e2, lbs, eho, lhl, fun H4 p4 s4 mm => ?_⟩
      exact q H4 p4 _ ks tbl hl (((sm1.trans s2).trans s3).trans s4) mm rfl ⟨wi, len, full, lhl, like, rfl, rfl⟩
end
end LH

namespace LH
open PySem PySem.Spec PyProof.Rows L2 NdefX LamX
def marksOf (M : Mach) : List Bool := (List.range M.rows.length).map fun s => decide (s ∈ M.ends)
section
variable {P : Program} {w : World} {K : PySem.W.Frag} {mg : Str → Option Value} {base : Heap}
/-! ### end_marks -/
def sp_end_marks : Sp := fun vs H Q _ => ∃ (m : Addr) (M : Mach), vs = [.ref m] ∧ MachAt H m M ∧ M.Ok ∧ M.rows.length ≤ 1000000 ∧ ∀ H' p, Same H H' → H p = none → H' p = some (.lst ((marksOf M).map V.bl)) → Q (.ref p) H'
def marks_ (n : Nat) (es : List Nat) : List Bool := (List.range n).map fun s => decide (s ∈ es)
theorem marks_set {n : Nat} {es : List Nat} {e : Nat} (_ : e < n) : (marks_ n es).set e true = marks_ n (es ++ [e]) := by
  refine List.ext_getElem? fun i => ?_
  unfold marks_
  by_cases hi : i < n
  · rw [List.getElem?_set]
    simp only [List.getElem?_map, List.getElem?_range hi, List.length_map, List.length_range, Option.map_some, List.mem_append, List.mem_singleton]
    by_cases q : e = i
    · subst q
      simp [hi]
    · have q' : ¬ i = e := fun z => q z.symm
      simp [q, q']
  · rw [List.getElem?_eq_none (by simp; omega), List.getElem?_eq_none (by simp; omega)]
theorem ok_end_marks (T : TX K mg) : FnOk P w K mg base CX0 1 T.a_end_marks T.fd_end_marks ["machine"] sp_end_marks := by
  refine T.F_end_marks.ok sc_end_marks (fun vs H Q E h => ?_) (fun cdv A outer s H vs Q E hr h => ?_)
  · obtain ⟨m, M, rfl, _⟩ := h
    rfl
  · obtain ⟨m, M, rfl, ⟨t, e, as, h1, h2, h3, h4⟩, k, hb, q⟩ := h
    refine ⟨_, (pss_cons (ps_asg (pv 0) (pg_tupK (n := 3) K rfl (by rfl) (pgs_cons (pg_name (i := 1) sc_end_marks.nd rfl (Or.inl rfl)) (pgs_cons (pg_name (i := 2) sc_end_marks.nd rfl (Or.inl rfl)) (pgs_cons (pg_name (i := 3) sc_end_marks.nd rfl (Or.inl rfl)) pgs_nil)))))
      (pss_cons (ps_setLc (i := 4) (own := [("row", 6)]) (g := gName 6) (tt := tYes) (by rfl) sc_end_marks.nd rfl rfl (sw_true rfl rfl rfl (by decide +kernel)) (pi_tupK K rfl (pv 2)) (blkOk_by (own := [("row", 6)]) (N := N_end_marks) (by kernel_rfl)) (fun _ _ _ _ _ => (pg_name (i := 6) sc_end_marks.nd rfl (by first | exact Or.inl rfl | exact Or.inr rfl))) (fun _ _ _ _ _ => pts_nil) (fun _ _ _ _ _ => pe_bl))
      (pss_cons (ps_for PassesOwn.never rfl (pi_tupK K rfl (pv 3)) (pg_name (i := 5) sc_end_marks.nd rfl (Or.inl rfl))
        (pss_one (ps_asg pe_bl (pg_sub (pv 4) (pv 5) set_list))))
      (pss_one (ps_ret (pv 4)))))), ?_⟩
    refine ⟨.ref m, rfl, m, [.str M.z, .ref t, .ref e], rfl, .inl (.inl h1), rfl, .str M.z, _, rfl, .ref t, _, rfl, .ref e, [], rfl, rfl, ?_⟩
    refine ⟨.ref t, rfl, t, rfl, ⟨_, .inl (.inl h2)⟩, fun D nD => ?_⟩
    refine lc_it (walk_tup (K := K) (a := t) (xs := vr as)) (fun i H' => H' = upd H D (.lst ((List.replicate i false).map V.bl))) rfl (fun i H' _ hW => ?_) (fun i x H1 H1' hi hW hY => ?_) (fun H1 hW => ?_)
    · rw [hW]
      exact .inl (.inl (same_new nD _ _ h2))
    · obtain ⟨rfl, _⟩ := hY
      subst hW
      rw [List.length_map, h3.1] at hi
      refine ⟨rfl, lcyes ⟨_, upd_same, ?_, ?_⟩⟩
      · rw [List.length_map, List.length_replicate]
        exact Nat.lt_of_le_of_lt (show i ≤ 1000000 by omega) (by decide)
      · rw [upd_upd, List.replicate_succ', List.map_append]
        rfl
    · subst hW
      rw [List.length_map, h3.1]
      have e0 : List.replicate M.rows.length false = marks_ M.rows.length [] := by
        unfold marks_
        rw [List.map_congr_left (g := fun _ => false) (fun a _ => by simp), List.map_const', List.length_range]
      rw [e0]
      refine ⟨.ref e, rfl, e, rfl, ⟨_, .inl (.inl (same_new nD _ _ h4))⟩, ?_⟩
      refine for_it (walk_tup (K := K) (a := e) (xs := vi M.ends)) (fun i σ H' => (Same H H' ∧ H' D = some (.lst ((marks_ M.rows.length (M.ends.take i)).map V.bl))) ∧ ∃ y5, σ = [some (.ref m), some (.str M.z), some (.ref t), some (.ref e), some (.ref D), y5, none]) ⟨⟨same_new nD, upd_same⟩, none, rfl⟩ (fun i σ H' _ hW => .inl (.inl (hW.1.1 _ _ h4))) (fun i x σ H1 H1' hi hW hY => ?_) (fun σ H1 hW => ?_)
      · obtain ⟨⟨sm, w1⟩, y5, rfl⟩ := hW
        obtain ⟨rfl, hx⟩ := hY
        obtain ⟨u, hu, rfl⟩ := int_at hx
        have hul := k.endl u (List.mem_of_getElem? hu)
        refine ⟨.ref D, rfl, .int (u : Int), rfl, D, _, (u : Int), u, rfl, rfl, w1, ixN_nat (by rw [List.length_map]; unfold marks_; rw [List.length_map, List.length_range]; exact hul), ⟨fun b o eb => ?_, ?_⟩, _, rfl⟩
        · rw [upd_ne (ne_of_none eb nD)]
          exact sm _ _ eb
        · rw [upd_same, take_snoc hu, ← marks_set hul, List.map_set]
      · obtain ⟨⟨sm, w1⟩, y5, rfl⟩ := hW
        have et : M.ends.take (vi M.ends).length = M.ends := List.take_of_length_le (by rw [List.length_map]; exact Nat.le_refl _)
        rw [et] at w1
        exact ⟨.ref D, rfl, q H1 D sm nD w1⟩
end
end LH

namespace LH
open PySem PySem.Spec PyProof.Rows L2 NdefX LamX
theorem back_hide {S : Addr → Prop} {H : Hp} : back S H (hide S H) = H := by
  funext b
  by_cases z : S b
  · rw [back_in z]
  · rw [back_out z, hide_out z]
theorem CellsT.sub {X : Cx} {H : Hp} {fr fr1 : List Str} {ws ws1 : List (Option V)} {cl : List (Str × Addr)} {js1 : List Nat} (C : CellsT H X.env.cells fr ws) (cap : Caps X cl fr1 js1) (len : ws1.length = fr1.length) (pos : ∀ (i : Nat) (y : Str), fr1[i]? = some y → ∃ i' : Nat, fr[i']? = some y ∧ ws[i']? = ws1[i]?) : CellsT H cl fr1 ws1 := by
  refine ⟨len, fun x y c h1 h2 => C.inj x y c (cap.sub x c h1) (cap.sub y c h2), fun y c h => C.all y c (cap.sub y c h), fun i y hy => ?_⟩
  obtain ⟨i', a, b⟩ := pos i y hy
  obtain ⟨c, hc, hv⟩ := C.has i' y a
  exact ⟨c, cap.sup y (List.mem_of_getElem? hy) c hc, fun v ev => hv v (by rw [b]; exact ev)⟩
end LH

namespace LH
open PySem PySem.Spec PyProof.Rows L2 NdefX LamX
/-! ### {k: v} whose key is a tuple -/
def tDispT (tk tv : TE) : TE := fun σ H Q => ∀ p, H p = none → tk σ (upd H p (.dT [])) fun x H1 => tv σ H1 fun y H2 => H2 p = some (.dT []) ∧ ∃ (b : Addr) (k : List Key), x = .ref b ∧ H2 b = some (.tup (k.map kV)) ∧ Q (.ref p) (upd H2 p (.dT [(k, y)]))
theorem pe_dispT {X : Cx} {pos : Pos} {k v : Expr} {tk tv : TE} (hu : X.A.units + 1 < cLine) (hk : PE X k tk) (hv : PE X v tv) : PE X (.Dict [some k] [v] pos) (tDispT tk tv) := by
  refine ⟨fun pins s σ H Q I q => ?_⟩
  have hn := I.hok.fresh (Nat.le_refl s.heap.objs.size)
  have I1 := I.laid (a := s.heap.objs.size) (o := .dT []) (h' := s.heap.push { cls := .type "dict", data := .dict #[] }) (t' := s.toks) (fun _ _ q => Heap.get?_push_of_some _ q) (Nat.le_refl _) (dt_empty s.heap I.big)
  rw [arm_eval_Dict, zip_pairTrees [some k] [v] X.env pos rfl rfl, dictDisplay_pairs _ (by intro z; cases z) (by show 1 < 17; decide)]
  refine wpAny_bind (wpAny_standAt (wpAny_bind ?_))
  unfold subDict
  refine wpAny_bind (wpAny_alloc ?_)
  refine wpAny_bind (wpAny_holding ?_)
  rw [if_pos (show (pairTrees [some k] [v] X.env pos).length ≤ 15 from (by decide : 1 ≤ 15))]
  refine wpAny_bind (pairTrees_cons_walk (thn (hk.run pins _ σ _ _ I1 (q _ hn)) fun u s1 ⟨x, H1, I2, rx, q1⟩ => thn (hv.run pins s1 σ H1 _ I2 q1) fun r s2 ⟨y, H2, I3, ry, e, b, ks, ex, eb, q2⟩ => pairTrees_nil_walk ?_))
  subst ex
  obtain rfl : u = Value.ref b := rx
  obtain ⟨z, hd, xs, rel, dd⟩ := dt_of I3.hok e
  cases rel
  refine wpAny_holding ?_
  rw [List.forIn_cons]
  refine wpAny_bind (wpAny_bind (wpAny_bind (wpAny_dictSet_heap (hsz := Nat.zero_le _) (show X.A.units < cLine by omega) (key_of I3.hok eb) dd fun h' dd' hs => wpAny_pure ?_)))
  dsimp only
  rw [List.forIn_nil]
  refine wpAny_pure (wpAny_pure (wpAny_pure (wpAny_pure ⟨.ref s.heap.objs.size, _, ?_, rfl, q2⟩)))
  obtain ⟨q, es, ep, hq, h2, h3, h4, _, h5⟩ := dd'
  have rel : KT H2 (putK [] ks y) (storedH [] ks b r) := KT.put .nil ks eb ry
  refine d_write I3 (by rw [e]; exact True.intro) hs ⟨q, hq⟩ ⟨by show 1 ≤ sizeLine; decide, hd, _, rel.keeps fun c ys ec => ?_, q, es, ep, hq, h2, h3, h4, h5⟩
  rw [upd_ne (ne_of ec e (fun z => nomatch z))]
  exact ec
/-! ### pairs for keys: a pair (a, b) is told by the number a * n2 + b -/
abbrev pr (n2 s : Nat) : List Nat := [s / n2, s % n2]
abbrev kk (n2 s : Nat) : List Key := [Sum.inl ((s / n2 : Nat) : Int), Sum.inl ((s % n2 : Nat) : Int)]
theorem kk_inj {n2 a b : Nat} (e : kk n2 a = kk n2 b) : a = b := by
  injection e with e1 e2
  injection e2 with e2 _
  have h1 : a / n2 = b / n2 := Int.ofNat.inj (Sum.inl.inj e1)
  have h2 : a % n2 = b % n2 := Int.ofNat.inj (Sum.inl.inj e2)
  rw [← Nat.div_add_mod a n2, ← Nat.div_add_mod b n2, h1, h2]
def PrAt (H : Hp) (n2 : Nat) (p : Addr) (s : Nat) : Prop := H p = some (.tup ((kk n2 s).map kV))
def PrsAt (H : Hp) (n2 : Nat) (ps : List Addr) (ss : List Nat) : Prop := ps.length = ss.length ∧ ∀ (i : Nat) (p : Addr) (s : Nat), ps[i]? = some p → ss[i]? = some s → PrAt H n2 p s
theorem PrsAt.same {H H' : Hp} {n2 : Nat} {ps : List Addr} {ss : List Nat} (h : PrsAt H n2 ps ss) (sm : Same H H') : PrsAt H' n2 ps ss := ⟨h.1, fun i p s x y => sm _ _ (h.2 i p s x y)⟩
theorem PrsAt.upd {H : Hp} {n2 : Nat} {ps : List Addr} {ss : List Nat} {a : Addr} {o : HO} (h : PrsAt H n2 ps ss) (na : ∀ xs, H a ≠ some (.tup xs)) : PrsAt (upd H a o) n2 ps ss := ⟨h.1, fun i p s x y => by
  have z := h.2 i p s x y
  have : p ≠ a := fun e => na _ (e ▸ z)
  show L2.upd H a o p = _
  rw [upd_ne this]
  exact z⟩
theorem PrsAt.snoc {H : Hp} {n2 : Nat} {ps : List Addr} {ss : List Nat} {p : Addr} {s : Nat} (h : PrsAt H n2 ps ss) (hp : PrAt H n2 p s) : PrsAt H n2 (ps ++ [p]) (ss ++ [s]) := by
  refine ⟨by rw [List.length_append, List.length_append, h.1]; rfl, fun i q t x y => ?_⟩
  by_cases hi : i < ps.length
  · rw [List.getElem?_append_left hi] at x
    rw [List.getElem?_append_left (by rw [← h.1]; exact hi)] at y
    exact h.2 i q t x y
  · rw [List.getElem?_append_right (by omega)] at x
    rw [List.getElem?_append_right (by rw [← h.1]; omega), ← h.1] at y
    have e : i - ps.length = 0 := by
      cases z : i - ps.length with
      | zero => rfl
      | succ k =>
        rw [z] at x
        simp at x
    rw [e] at x y
    cases x
    cases y
    exact hp
theorem ref_at {as : List Addr} {i : Nat} {x : V} (h : (vr as)[i]? = some x) : ∃ a, as[i]? = some a ∧ x = .ref a := by
  rw [List.getElem?_map] at h
  obtain ⟨a, e, z⟩ := Option.map_eq_some_iff.mp h
  exact ⟨a, e, z.symm⟩
abbrev mk2 (n2 : Nat) (ks : List Nat) : List (List Key × V) := ks.zipIdx.map fun (p : Nat × Nat) => (kk n2 p.1, V.int (p.2 : Int))
theorem mk2_snoc (n2 : Nat) (ks : List Nat) (t : Nat) : mk2 n2 (ks ++ [t]) = mk2 n2 ks ++ [(kk n2 t, V.int (ks.length : Int))] := by
  show List.map _ (ks ++ [t]).zipIdx = _
  rw [List.zipIdx_append, List.map_append]
  simp
theorem valV_mkk2 (n2 x : Nat) : ∀ (ks : List Nat) (k : Nat), valV ((ks.zipIdx k).map fun (p : Nat × Nat) => (kk n2 p.1, V.int (p.2 : Int))) (kk n2 x) = if x ∈ ks then some (.int ((k + ks.idxOf x : Nat) : Int)) else none
  | [], _ => rfl
  | h :: r, k => by
    rw [List.zipIdx_cons, List.map_cons, List.idxOf_cons]
    by_cases q : h = x
    · subst q
      rw [valV_pos rfl, if_pos (List.mem_cons_self ..)]
      simp
    · have ne : ¬ (((h, k) : Nat × Nat) |> fun p => (kk n2 p.1, V.int (p.2 : Int))).1 = kk n2 x := fun z => q (kk_inj z)
      rw [valV_neg ne, valV_mkk2 n2 x r (k + 1), show (h == x) = false from beq_eq_false_iff_ne.mpr q]
      have : (x ∈ h :: r) ↔ x ∈ r := ⟨fun z => (List.mem_cons.mp z).elim (fun y => absurd y.symm q) id, List.mem_cons_of_mem _⟩
      by_cases e : x ∈ r
      · rw [if_pos e, if_pos (this.mpr e)]
        show some (V.int ((k + 1 + r.idxOf x : Nat) : Int)) = some (V.int ((k + (r.idxOf x + 1) : Nat) : Int))
        congr 2
        omega
      · rw [if_neg e, if_neg (fun z => e (this.mp z))]
theorem valV_mk2 (n2 x : Nat) (ks : List Nat) : valV (mk2 n2 ks) (kk n2 x) = if x ∈ ks then some (.int ((ks.idxOf x : Nat) : Int)) else none := by
  have := valV_mkk2 n2 x ks 0
  rw [Nat.zero_add] at this
  exact this
theorem mk2_len (n2 : Nat) (ks : List Nat) : (mk2 n2 ks).length = ks.length := by
  show (List.map _ _).length = _
  rw [List.length_map, List.length_zipIdx]
section
variable {P : Program} {w : World} {K : PySem.W.Frag} {mg : Str → Option Value} {base : Heap}
def sp_walked2 (P : Program) (w : World) (K : PySem.W.Frag) (mg : Str → Option Value) (base : Heap) : Sp := fun vs H Q _ => ∃ (p0 f : Addr) (F : NF) (spf : Sp) (n2 s0 n0 L : Nat) (R : Nat → List Nat), vs = [.ref p0, .ref f] ∧ PrAt H n2 p0 s0 ∧ H f = some (FnO f F) ∧ Callable P w K mg base 4 f spf ∧ s0 < n0 ∧ n0 ≤ 1000000 ∧ L ≤ 5 ∧ (∀ s, s < n0 → (R s).length = L ∧ ∀ t ∈ R s, t < n0) ∧
  (∀ (s : Nat) (p : Addr) (H' : Hp) (Q' : VK), s < n0 → Same H H' → PrAt H' n2 p s → (∀ H'' b bas, Same H' H'' → H' b = none → H'' b = some (.lst (vr bas)) → PrsAt H'' n2 bas (R s) → Q' (.ref b) H'') → spf [.ref p] H' Q' E0) ∧
  ∀ H' p ka tb ras kas ks tbl, Same H H' → H' p = some (.tup [.ref ka, .ref tb]) → H' ka = some (.lst (vr kas)) → PrsAt H' n2 kas ks → LolAt H' tb ras tbl → WI n0 L R s0 ks tbl → tbl.length = ks.length → (∀ r ∈ tbl, r.length = L) → Q (.ref p) H'

theorem ok_walked2 (T : TX K mg) : FnOk P w K mg base CX0 5 T.a_walked T.fd_walked ["start", "follow"] (sp_walked2 P w K mg base) := by
  refine T.F_walked.ok sc_walked (fun vs H Q E h => ?_) (fun cdv A outer s H vs Q E hr h => ?_)
  · obtain ⟨p0, f, F, spf, n2, s0, n0, L, R, rfl, _⟩ := h
    rfl
  · obtain ⟨p0, f, F, spf, n2, s0, n0, L, R, rfl, hp0, hf, ca, h0, hbig, hL, hR, hsp, q⟩ := h
    refine ⟨_, (pss_cons (ps_set (i := 2) sc_walked.nd rfl (Or.inl rfl) (pe_dispT (hu_of hr) (pv 0) pe_int))
      (pss_cons (ps_set (i := 3) sc_walked.nd rfl (Or.inl rfl) (pe_lst (pa_cons (pv 0) pa_nil)))
      (pss_cons (ps_set (i := 4) sc_walked.nd rfl (Or.inl rfl) (pe_lst pa_nil))
      (pss_cons (ps_while PassesOwn.never (pt_cmpR op_lt (pe_callB (call_lenK K rfl) (by rfl) T.m_len (by decide +kernel) (pa_cons (pv 4) pa_nil)) (pe_callB (call_lenK K rfl) (by rfl) T.m_len (by decide +kernel) (pa_cons (pv 3) pa_nil)) (nomark _))
        (pss_cons (ps_set (i := 5) sc_walked.nd rfl (Or.inl rfl) (pe_lst pa_nil))
          (pss_cons (ps_set (i := 6) sc_walked.nd rfl (Or.inl rfl) (pe_callV (k := 4) (i := 1) P w K mg base rfl rfl rfl rfl rfl (hr.mono (by decide)) rfl (by first | exact Or.inl rfl | exact Or.inr (Or.inl rfl) | exact Or.inr (Or.inr rfl)) (pa_cons (pe_ix (ix_listK K rfl) (pv 3) (pe_callB (call_lenK K rfl) (by rfl) T.m_len (by decide +kernel) (pa_cons (pv 4) pa_nil)) (fun _ _ => rfl)) pa_nil)))
          (pss_cons (ps_for PassesOwn.never rfl (pi_listK K rfl (pv 6)) (pg_name (i := 7) sc_walked.nd rfl (Or.inl rfl))
            (C8.pss_cut (ps_if (pt_cmp (pc_dnotin (hu_of hr) (pv 7) (pv 2)))
                (pss_cons (ps_dput (hu_of hr) (pv 2) (pv 7) (pe_callB (call_lenK K rfl) (by rfl) T.m_len (by decide +kernel) (pa_cons (pv 3) pa_nil)) rfl)
                  (pss_one (ps_expr (pe_bmK K rfl PySem.F.plainAttrs_list PySem.F.slot_list_append PySem.F.type_list_append mt_append (pv 3) (pa_cons (pv 7) pa_nil)))))
                pss_nil)
              (pss_one (ps_expr (pe_bmK K rfl PySem.F.plainAttrs_list PySem.F.slot_list_append PySem.F.type_list_append mt_append (pv 5) (pa_cons (pe_dget (hu_of hr) (pv 2) (pv 7) (fun _ _ => rfl)) pa_nil))))))
          (pss_one (ps_expr (pe_bmK K rfl PySem.F.plainAttrs_list PySem.F.slot_list_append PySem.F.type_list_append mt_append (pv 4) (pa_cons (pv 5) pa_nil))))))))
      (pss_one (ps_ret (pe_tup (pa_cons (pv 3) (pa_cons (pv 4) pa_nil))))))))), ?_⟩
    have sl : ∀ m, m ≤ 1000000 → m < sizeLine := fun m hm => Nat.lt_of_le_of_lt hm (by decide)
    -- numbers, keys, table
    refine fun nm nnm => ⟨.ref p0, rfl, upd_same, p0, kk n2 s0, rfl, same_new nnm _ _ hp0, ?_⟩
    rw [upd_upd]
    refine ⟨.ref p0, rfl, by show 1 ≤ sizeLine; decide, fun ka nka => ⟨by show 0 ≤ sizeLine; decide, fun ta nta => ?_⟩⟩
    have em : [(kk n2 s0, V.int 0)] = mk2 n2 [s0] := rfl
    rw [em] at nka nta ⊢
    have d1 : nm ≠ ka := ne_of_none upd_same nka
    have e1 : (upd (upd H nm (.dT (mk2 n2 [s0]))) ka (.lst [.ref p0])) nm = some (.dT (mk2 n2 [s0])) := same_new nka _ _ upd_same
    have d2 : nm ≠ ta := ne_of_none e1 nta
    have d3 : ka ≠ ta := ne_of_none upd_same nta
    have fka : H ka = none := (same_new nnm).free nka
    have sm0 : Same H (upd (upd H nm (.dT (mk2 n2 [s0]))) ka (.lst [.ref p0])) := (same_new nnm).trans (same_new nka)
    have fta : H ta = none := sm0.free nta
    -- while
    refine ⟨fun m σ H' => ∃ (ks : List Nat) (kas : List Addr) (tbl : List (List Nat)) (ras : List Addr) (y5 y6 y7 : Option V), m + tbl.length = n0 + 1 ∧ σ = [some (.ref p0), some (.ref f), some (.ref nm), some (.ref ka), some (.ref ta), y5, y6, y7] ∧ Same H H' ∧ H' nm = some (.dT (mk2 n2 ks)) ∧ H' ka = some (.lst (vr kas)) ∧ PrsAt H' n2 kas ks ∧ LolAt H' ta ras tbl ∧ WI n0 L R s0 ks tbl ∧ (∀ r ∈ tbl, r.length = L) ∧ (∀ a ∈ ras, H a = none ∧ a ≠ ta ∧ a ≠ ka),
      ⟨n0 + 1, [s0], [p0], [], [], none, none, none, rfl, rfl, sm0.trans (same_new nta), same_new nta _ _ e1, same_new nta _ _ upd_same, ⟨rfl, fun i p s x y => ?_⟩, ⟨upd_same, rfl, fun i b w x => by simp at x⟩, WI.start h0, (fun _ h => nomatch h), fun _ h => nomatch h⟩, fun m σ H1 hW => ?_⟩
    · cases i with
      | zero =>
        cases x
        cases y
        exact (sm0.trans (same_new nta)) _ _ hp0
      | succ i => simp at x
    obtain ⟨ks, kas, tbl, ras, y5, y6, y7, hm, rfl, sm1, en, ek1, pk1, ht1, wi, full, fr⟩ := hW
    have hmany := wi.many
    have hrl : ras.length = tbl.length := ht1.2.1
    have hkl : kas.length = ks.length := pk1.1
    refine ⟨.ref ta, rfl, ta, _, rfl, .inl (.inl (.inl ht1.1)), .ref ka, rfl, ka, _, rfl, .inl (.inl (.inl ek1)), _, _, rfl, rfl, _, rfl, ite2 (fun z => ?_) (fun z => ?_)⟩
    · have hlt : tbl.length < ks.length := by
        have := of_decide_eq_true z
        rw [List.length_map, List.length_map, hrl, hkl] at this
        omega
      refine ⟨fun σ' H' => ∃ (ks : List Nat) (kas : List Addr) (row : List Nat) (ras' : List Addr) (y5 y6 y7 : Option V), σ' = [some (.ref p0), some (.ref f), some (.ref nm), some (.ref ka), some (.ref ta), y5, y6, y7] ∧ Same H H' ∧ H' nm = some (.dT (mk2 n2 ks)) ∧ H' ka = some (.lst (vr kas)) ∧ PrsAt H' n2 kas ks ∧ LolAt H' ta ras' (tbl ++ [row]) ∧ WI n0 L R s0 ks (tbl ++ [row]) ∧ row.length = L ∧ (∀ a ∈ ras', H a = none ∧ a ≠ ta ∧ a ≠ ka), fun σ' H' hN => ?_, ?_⟩
      · obtain ⟨ks', kas', row, ras', y5, y6, y7, r1, r2, r3, r4, r4', r5, r6, r7, r8⟩ := hN
        have := r6.le
        have hm' := r6.many
        rw [List.length_append] at this
        have this : tbl.length + 1 ≤ ks'.length := this
        refine ⟨m - 1, by omega, ks', kas', tbl ++ [row], ras', y5, y6, y7, ?_, r1, r2, r3, r4, r4', r5, r6, mem_snoc full r7, r8⟩
        rw [List.length_append]
        show m - 1 + (tbl.length + 1) = n0 + 1
        omega
      -- row = []
      refine ⟨by show 0 ≤ sizeLine; decide, fun ra nra => ?_⟩
      have sm2 : Same H (upd H1 ra (.lst [])) := sm1.trans (same_new nra)
      have s2 : Same H1 (upd H1 ra (.lst [])) := same_new nra
      have era : (upd H1 ra (.lst [])) ra = some (.lst (vi [])) := upd_same
      have fra : H ra = none := sm1.free nra
      have ra1 : nm ≠ ra := ne_of_none en nra
      have ra2 : ka ≠ ra := ne_of_none ek1 nra
      have ra3 : ta ≠ ra := ne_of_none ht1.1 nra
      have ra4 : ∀ a ∈ ras, a ≠ ra := fun a ha e => by
        obtain ⟨i, hi⟩ := List.mem_iff_getElem?.mp ha
        have hil : i < tbl.length := by
          rw [← hrl]
          exact (List.getElem?_eq_some_iff.mp hi).1
        have := ht1.2.2 i a _ hi (List.getElem?_eq_getElem hil)
        exact ne_of_none this nra e
      have en2 := s2 _ _ en
      have ek2 := s2 _ _ ek1
      have pk2 := pk1.same s2
      have ht2 := ht1.same s2
      generalize upd H1 ra (.lst []) = H2 at sm2 s2 era en2 ek2 pk2 ht2
      have hks : ks[tbl.length]? = some ks[tbl.length] := List.getElem?_eq_getElem hlt
      generalize ks[tbl.length] = sx at hks
      have hlk : tbl.length < kas.length := by omega
      have hka : kas[tbl.length]? = some kas[tbl.length] := List.getElem?_eq_getElem hlk
      generalize kas[tbl.length] = px at hka
      have hsx : sx < n0 := wi.lt sx (List.mem_of_getElem? hks)
      obtain ⟨hRl, hRt⟩ := hR sx hsx
      have hvk : (vr kas)[ras.length]? = some (.ref px) := by
        rw [List.getElem?_map, hrl, hka]
        rfl
      have hpx : PrAt H2 n2 px sx := pk2.2 _ _ _ hka hks
      -- behind = follow(keys[len(table)])
      refine ⟨f, F, spf, rfl, sm2 _ _ hf, ca, .ref ka, rfl, .ref ta, rfl, ta, _, rfl, .inl (.inl (.inl ht2.1)), ka, _, _, .ref px, rfl, rfl, .inl (.inl ek2), ?_, sm2 _ _ hf, hsp sx px H2 _ hsx sm2 hpx fun H3 pb bas s3 npb eb pbs => ?_⟩
      · rw [List.length_map]
        exact atI_nat hvk
      have wi0 := wi.open_ hlt
      have b1 : nm ≠ pb := ne_of_none en2 npb
      have b2 : ka ≠ pb := ne_of_none ek2 npb
      have b3 : ra ≠ pb := ne_of_none era npb
      have hbl : bas.length = L := by rw [pbs.1, hRl]
      -- for key in behind
      refine ⟨.ref pb, rfl, pb, rfl, ⟨_, .inl (.inl eb)⟩, ?_⟩
      refine for_it (walk_list (K := K) (a := pb) (xs := vr bas)) (fun c σ H' => (∃ ks kas cur, Same H H' ∧ H' nm = some (.dT (mk2 n2 ks)) ∧ H' ka = some (.lst (vr kas)) ∧ PrsAt H' n2 kas ks ∧ LolAt H' ta ras tbl ∧ H' ra = some (.lst (vi cur)) ∧ H' pb = some (.lst (vr bas)) ∧ PrsAt H' n2 bas (R sx) ∧ cur.length = c ∧ ks[tbl.length]? = some sx ∧ WI n0 L R s0 ks (tbl ++ [cur])) ∧ ∃ y7, σ = [some (.ref p0), some (.ref f), some (.ref nm), some (.ref ka), some (.ref ta), some (.ref ra), some (.ref pb), y7]) ⟨⟨ks, kas, [], sm2.trans s3, s3 _ _ en2, s3 _ _ ek2, pk2.same s3, ht2.same s3, s3 _ _ era, eb, pbs, rfl, hks, wi0⟩, y7, rfl⟩ (fun c σ H' _ hW => ?_) (fun c x σ H4 H4' hc hW hY => ?_) (fun σ H4 hW => ?_)
      · obtain ⟨⟨_, _, _, _, _, _, _, _, _, z, _⟩, _⟩ := hW
        exact .inl (.inl z)
      · obtain ⟨⟨ks, kas, cur, sm4, en4, ek4, pk4, ht4, er4, eb4, pb4, lc, hk4, wi4⟩, y7, rfl⟩ := hW
        obtain ⟨rfl, hx⟩ := hY
        obtain ⟨pt, hpt, rfl⟩ := ref_at hx
        have hcl : c < (R sx).length := by
          rw [← pb4.1]
          exact (List.getElem?_eq_some_iff.mp hpt).1
        have ht : (R sx)[c]? = some (R sx)[c] := List.getElem?_eq_getElem hcl
        generalize (R sx)[c] = t at ht
        have ppt : PrAt H4' n2 pt t := pb4.2 _ _ _ hpt ht
        have htn := hRt t (List.mem_of_getElem? ht)
        have hm4 := wi4.many
        have nn : ∀ xs, H4' nm ≠ some (.tup xs) := fun xs z => by rw [en4] at z; cases z
        have nk : ∀ xs, H4' ka ≠ some (.tup xs) := fun xs z => by rw [ek4] at z; cases z
        have nlol : ∀ {H5 : Hp}, (∀ b, b ≠ nm → b ≠ ka → b ≠ ra → H5 b = H4' b) → LolAt H5 ta ras tbl := fun {H5} hh => by
          refine ⟨by rw [hh ta (Ne.symm d2) (Ne.symm d3) ra3]; exact ht4.1, ht4.2.1, fun i b w' x' y' => ?_⟩
          have z := ht4.2.2 i b w' x' y'
          rw [hh b (ne_of z en4 (by intro q; cases q)) (fr b (List.mem_of_getElem? x')).2.2 (ra4 b (List.mem_of_getElem? x'))]
          exact z
        refine ⟨fun σ' H' => ∃ ks' kas', (ks' = ks ∨ (ks' = ks ++ [t] ∧ t ∉ ks)) ∧ t ∈ ks' ∧ ks'.Nodup ∧ σ' = [some (.ref p0), some (.ref f), some (.ref nm), some (.ref ka), some (.ref ta), some (.ref ra), some (.ref pb), some (.ref pt)] ∧ Same H H' ∧ H' nm = some (.dT (mk2 n2 ks')) ∧ H' ka = some (.lst (vr kas')) ∧ PrsAt H' n2 kas' ks' ∧ (∀ b, b ≠ nm → b ≠ ka → H' b = H4' b), ?_, fun σ' H' hM => ?_⟩
        · refine ⟨.ref pt, rfl, .ref nm, rfl, nm, _, rfl, DGet.t (k := kk n2 t) en4 ppt, _, rfl, ?_⟩
          rw [valV_mk2]
          by_cases hin : t ∈ ks
          · rw [if_pos hin]
            refine iteF ?_
            exact ⟨ks, kas, .inl rfl, hin, wi4.nd, rfl, sm4, en4, ek4, pk4, fun _ _ _ => rfl⟩
          · rw [if_neg hin]
            refine iteT ?_
            have ep : putK (mk2 n2 ks) (kk n2 t) (V.int ((vr kas).length : Int)) = mk2 n2 (ks ++ [t]) := by
              unfold putK
              rw [valV_any, valV_mk2, if_neg hin, if_neg (by decide), mk2_snoc, List.length_map, pk4.1]
            refine ⟨.ref ka, rfl, ka, _, rfl, .inl (.inl (.inl ek4)), .ref nm, rfl, .ref pt, rfl, nm, _, rfl, DPut.t (k := kk n2 t) en4 ppt (by rw [mk2_len]; exact sl _ (by omega)), ?_⟩
            rw [ep]
            have ek5 : (upd H4' nm (.dT (mk2 n2 (ks ++ [t])))) ka = some (.lst (vr kas)) := by
              rw [upd_ne (Ne.symm d1)]
              exact ek4
            have pk5 : PrsAt (upd H4' nm (.dT (mk2 n2 (ks ++ [t])))) n2 (kas ++ [pt]) (ks ++ [t]) := (pk4.snoc ppt).upd nn
            refine ⟨.ref ka, rfl, .inl ⟨rfl, _, .inl (.inl ek5)⟩, .ref pt, rfl, ka, _, _, rfl, rfl, ek5, by rw [List.length_map, pk4.1]; exact sl _ (by omega), ks ++ [t], kas ++ [pt], .inr ⟨rfl, hin⟩, List.mem_append_right _ (List.mem_singleton.mpr rfl), ?_, rfl, ?_, ?_, ?_, ?_, ?_⟩
            · refine List.nodup_append.mpr ⟨wi4.nd, by simp, fun x hx y hy e => ?_⟩
              rw [List.mem_singleton.mp hy] at e
              exact hin (e ▸ hx)
            · intro b o e
              rw [upd_ne (ne_of_none e fka), upd_ne (ne_of_none e nnm)]
              exact sm4 _ _ e
            · rw [upd_ne d1, upd_same]
            · rw [upd_same, vr_snoc]
            · exact pk5.upd fun xs z => by rw [ek5] at z; cases z
            · intro b h1 h2
              rw [upd_ne h2, upd_ne h1]
        · obtain ⟨ks', kas', hk', htin, nd', rfl, sm5, en5, ek5, pk5, rest⟩ := hM
          have er5 : H' ra = some (.lst (vi cur)) := by
            rw [rest ra (Ne.symm ra1) (Ne.symm ra2)]
            exact er4
          have ppt5 : PrAt H' n2 pt t := by
            show H' pt = _
            rw [rest pt (fun e => nn _ (e ▸ ppt)) (fun e => nk _ (e ▸ ppt))]
            exact ppt
          have pb5 : PrsAt H' n2 bas (R sx) := ⟨pb4.1, fun i p' s' x' y' => by
            have z := pb4.2 i p' s' x' y'
            show H' p' = _
            rw [rest p' (fun e => nn _ (e ▸ z)) (fun e => nk _ (e ▸ z))]
            exact z⟩
          have nr5 : ∀ xs, H' ra ≠ some (.tup xs) := fun xs z => by rw [er5] at z; cases z
          have hvt : ks'[ks'.idxOf t]? = some t := by
            have := List.idxOf_lt_length_iff.mpr htin
            rw [List.getElem?_eq_getElem this, List.getElem_idxOf]
          have hk5 : ks'[tbl.length]? = some sx := by
            rcases hk' with rfl | ⟨rfl, _⟩
            · exact hk4
            · rw [List.getElem?_append_left (List.getElem?_eq_some_iff.mp hk4).1]
              exact hk4
          -- row.append(numbers[key])
          refine ⟨.ref ra, rfl, .inl ⟨rfl, _, .inl (.inl er5)⟩, .ref nm, rfl, .ref pt, rfl, nm, .int (ks'.idxOf t : Nat), rfl, ?_, ra, _, _, rfl, rfl, er5, by rw [List.length_map]; exact sl _ (by omega), ⟨ks', kas', cur ++ [ks'.idxOf t], ?_, ?_, ?_, pk5.upd nr5, ?_, ?_, ?_, pb5.upd nr5, ?_, hk5, ?_⟩, _, rfl⟩
          · have := DGet.t (k := kk n2 t) en5 ppt5
            rw [valV_mk2, if_pos htin] at this
            exact this
          · intro b o e
            rw [upd_ne (ne_of_none e fra)]
            exact sm5 _ _ e
          · rw [upd_ne ra1]
            exact en5
          · rw [upd_ne ra2]
            exact ek5
          · exact nlol fun b h1 h2 h3 => by
              rw [upd_ne h3]
              exact rest b h1 h2
          · rw [upd_same, vi_snoc]
          · rw [upd_ne (Ne.symm b3), rest pb (Ne.symm b1) (Ne.symm b2)]
            exact eb4
          · rw [List.length_append, lc]
            rfl
          · exact wi4.put hk4 (by rw [lc]; exact ht) htn (by omega) hvt hk'
      · obtain ⟨⟨ks, kas, cur, sm4, en4, ek4, pk4, ht4, er4, eb4, pb4, lc, hk4, wi4⟩, y7, rfl⟩ := hW
        rw [List.length_map, hbl] at lc
        have nt : ∀ a ∈ ras, a ≠ ta := fun a ha => (fr a ha).2.1
        -- table.append(row)
        refine ⟨.ref ta, rfl, .inl ⟨rfl, _, .inl (.inl ht4.1)⟩, .ref ra, rfl, ta, _, _, rfl, rfl, ht4.1, by rw [List.length_map, hrl]; exact sl _ (by omega), ks, kas, cur, ras ++ [ra], _, _, _, rfl, ?_, ?_, ?_, pk4.upd (fun xs z => by rw [ht4.1] at z; cases z), ?_, wi4, lc, ?_⟩
        · intro b o e
          rw [upd_ne (ne_of_none e fta)]
          exact sm4 _ _ e
        · rw [upd_ne d2]
          exact en4
        · rw [upd_ne d3]
          exact ek4
        · rw [vr_snoc]
          exact lol_snoc ht4 er4 nt (Ne.symm ra3)
        · exact mem_snoc fr ⟨fra, Ne.symm ra3, Ne.symm ra2⟩
    · have hle := wi.le
      have hlen : tbl.length = ks.length := by
        have : ¬ (((vr ras).length : Nat) : Int) < ((vr kas).length : Nat) := fun y => z (decide_eq_true y)
        rw [List.length_map, List.length_map, hrl, hkl] at this
        omega
      refine ⟨.ref ka, rfl, .ref ta, rfl, by show 2 ≤ sizeLine; decide, fun p np => ?_⟩
      exact q _ p ka ta ras kas ks tbl (sm1.trans (same_new np)) upd_same (same_new np _ _ ek1) (pk1.same (same_new np)) (ht1.same (same_new np)) wi hlen full
end
end LH

namespace LH
open PySem PySem.Spec PyProof.Rows L2 NdefX LamX
section
variable {P : Program} {w : World} {K : PySem.W.Frag} {mg : Str → Option Value} {base : Heap}
def sp_built2 (P : Program) (w : World) (K : PySem.W.Frag) (mg : Str → Option Value) (base : Heap) : Sp := fun vs H Q _ => ∃ (z : Str) (p0 f g : Addr) (F G : NF) (spf spg : Sp) (n2 s0 n0 L : Nat) (R : Nat → List Nat) (fin : Nat → Bool), vs = [.str z, .ref p0, .ref f, .ref g] ∧ PrAt H n2 p0 s0 ∧ H f = some (FnO f F) ∧ Callable P w K mg base 4 f spf ∧ H g = some (FnO g G) ∧ Callable P w K mg base 4 g spg ∧
  s0 < n0 ∧ n0 ≤ 1000000 ∧ 1 ≤ L ∧ L ≤ 5 ∧ (∀ s, s < n0 → (R s).length = L ∧ ∀ t ∈ R s, t < n0) ∧
  (∀ (s : Nat) (p : Addr) (H' : Hp) (Q' : VK), s < n0 → Same H H' → PrAt H' n2 p s → (∀ H'' b bas, Same H' H'' → H' b = none → H'' b = some (.lst (vr bas)) → PrsAt H'' n2 bas (R s) → Q' (.ref b) H'') → spf [.ref p] H' Q' E0) ∧
  (∀ (s : Nat) (p : Addr) (H' : Hp) (Q' : VK), s < n0 → Same H H' → PrAt H' n2 p s → (∀ H'', Same H' H'' → Q' (.bl (fin s)) H'') → spg [.ref p] H' Q' E0) ∧
  ∀ H' p (M : Mach) ks tbl hl, Same H H' → MachAt H' p M → M.z = z → BuiltOk n0 L R s0 fin M ks tbl hl → Q (.ref p) H'
theorem ok_built2 (T : TX K mg) : FnOk P w K mg base CX0 6 T.a_built T.fd_built ["letters", "start", "follow", "is_end"] (sp_built2 P w K mg base) := by
  have G_walked : FnOk P w K mg base CX0 5 T.a_walked T.fd_walked ["start", "follow"] (sp_walked2 P w K mg base) := ok_walked2 T
  have G_parted : FnOk P w K mg base CX0 2 T.a_parted T.fd_parted ["table", "ended"] sp_parted := ok_parted T
  have G_merged : FnOk P w K mg base CX0 1 T.a_merged T.fd_merged ["letters", "table", "ended", "homes"] sp_merged := ok_merged T
  refine T.F_built.ok sc_built (fun vs H Q E h => ?_) (fun cdv A outer s H vs Q E hr h => ?_)
  · obtain ⟨z, p0, f, g, F, G, spf, spg, n2, s0, n0, L, R, fin, rfl, _⟩ := h
    rfl
  · obtain ⟨z, p0, f, g, F, G, spf, spg, n2, s0, n0, L, R, fin, rfl, hp0, hf, caf, hg, cag, h0, hbig, hL1, hL5, hR, hspf, hspg, q⟩ := h
    refine ⟨_, (pss_cons (ps_asg (pe_call G_walked (hr.mono (by decide)) (by rfl) T.g_walked T.F_walked.kp T.b_walked .nil pass0 (pa_cons (pv 1) (pa_cons (pv 2) pa_nil))) (pg_tupK (n := 2) K rfl (by rfl) (pgs_cons (pg_name (i := 4) sc_built.nd rfl (Or.inl rfl)) (pgs_cons (pg_name (i := 5) sc_built.nd rfl (Or.inl rfl)) pgs_nil))))
      (pss_cons (ps_setLc (i := 6) (own := [("key", 7)]) (g := gName 7) (tt := tYes) (by rfl) sc_built.nd rfl rfl (sw_true rfl rfl rfl (by decide +kernel)) (pi_listK K rfl (pv 4)) (blkOk_by (own := [("key", 7)]) (N := N_built) (by kernel_rfl)) (fun _ _ _ _ _ => (pg_name (i := 7) sc_built.nd rfl (by first | exact Or.inl rfl | exact Or.inr rfl))) (fun _ _ _ _ _ => pts_nil) (fun _ _ _ _ _ => (pe_callV (k := 4) (i := 3) P w K mg base rfl rfl rfl rfl rfl (hr.mono (by decide)) rfl (by first | exact Or.inl rfl | exact Or.inr (Or.inl rfl) | exact Or.inr (Or.inr rfl)) (pa_cons (pv 7) pa_nil))))
      (pss_one (ps_ret (pe_call G_merged (hr.mono (by decide)) (by rfl) T.g_merged T.F_merged.kp T.b_merged .nil pass0 (pa_cons (pv 0) (pa_cons (pv 5) (pa_cons (pv 6) (pa_cons (pe_call G_parted (hr.mono (by decide)) (by rfl) T.g_parted T.F_parted.kp T.b_parted .nil pass0 (pa_cons (pv 5) (pa_cons (pv 6) pa_nil))) pa_nil))))))))), ?_⟩
    -- keys, table = walked(start, follow)
    refine ⟨.ref p0, rfl, .ref f, rfl, p0, f, F, spf, n2, s0, n0, L, R, rfl, hp0, hf, caf, h0, hbig, hL5, hR, hspf, fun H1 p ka tb ras kas ks tbl sm1 ep ek pk et wi len full => ?_⟩
    refine ⟨p, [.ref ka, .ref tb], rfl, .inl (.inl ep), rfl, .ref ka, [.ref tb], rfl, .ref tb, [], rfl, rfl, ?_⟩
    have tk := BuiltOk.tab wi len full hL1 hL5 hbig
    have hm := wi.many
    -- ended
    refine ⟨.ref ka, rfl, ka, rfl, ⟨_, .inl (.inl ek)⟩, fun D nD => ?_⟩
    have fD : H D = none := sm1.free nD
    refine lc_it (walk_list (K := K) (a := ka) (xs := vr kas)) (fun i H' => Same H1 H' ∧ H' D = some (.lst (((ks.take i).map fin).map V.bl))) ⟨same_new nD, upd_same⟩ (fun i H' _ hW => .inl (.inl (hW.1 _ _ ek))) (fun i x H2 H2' hi hW hY => ?_) (fun H2 hW => ?_)
    · obtain ⟨s2, e2⟩ := hW
      obtain ⟨rfl, hx⟩ := hY
      obtain ⟨pt, hpt, rfl⟩ := ref_at hx
      rw [List.length_map, pk.1] at hi
      have ht : ks[i]? = some ks[i] := List.getElem?_eq_getElem hi
      generalize ks[i] = t at ht
      have ppt : PrAt H2' n2 pt t := s2 _ _ (pk.2 _ _ _ hpt ht)
      refine ⟨rfl, lcyes ?_⟩
      refine ⟨g, G, spg, rfl, s2 _ _ (sm1 _ _ hg), cag, .ref pt, rfl, s2 _ _ (sm1 _ _ hg), hspg t pt H2' _ (wi.lt t (List.mem_of_getElem? ht)) (sm1.trans s2) ppt fun H3 s3 => ?_⟩
      refine ⟨_, s3 _ _ e2, ?_, fun b o eb => ?_, ?_⟩
      · rw [List.length_map, List.length_map, List.length_take]
        exact Nat.lt_of_le_of_lt (show _ ≤ 1000000 by omega) (by decide)
      · rw [upd_ne (ne_of_none eb nD)]
        exact s3 _ _ (s2 _ _ eb)
      · rw [upd_same, take_snoc ht, List.map_append, List.map_append]
        rfl
    · obtain ⟨s2, e2⟩ := hW
      have etk : ks.take (vr kas).length = ks := List.take_of_length_le (by rw [List.length_map, pk.1]; exact Nat.le_refl _)
      rw [etk] at e2
      have lbs : (ks.map fin).length = ks.length := List.length_map ..
      -- merged(letters, table, ended, parted(table, ended))
      refine ⟨.str z, rfl, .ref tb, rfl, .ref D, rfl, .ref tb, rfl, .ref D, rfl, tb, D, ras, tbl, ks.map fin, ks.length, L, rfl, et.same s2, tk, e2, lbs, fun H3 ho hl s3 fho eho lhl like => ?_⟩
      refine ⟨z, tb, D, ho, ras, tbl, ks.map fin, hl, ks.length, L, rfl, (et.same s2).same s3, tk, s3 _ _ e2, lbs, eho, lhl, fun H4 p4 s4 mm => ?_⟩
      exact q H4 p4 _ ks tbl hl (((sm1.trans s2).trans s3).trans s4) mm rfl ⟨wi, len, full, lhl, like, rfl, rfl⟩
end
end LH

namespace LH
open PySem PySem.Spec PyProof.Rows L2
/-! ### list(zip(tuple, tuple)) -/
section
variable {prog : Program} {w : World} {A : Around} {E : Value → Shared → Prop} {s : Shared}
theorem zt_held {z TI TO T i1 i2 l1 l2 : Addr} {f : Bool} {oT : Obj} {k1 k2 : Nat} {xs ys : Array Value} {x y : Value} {Q : Option Value → Shared → Prop} (D : ZipApart z TI TO i1 i2 l1 l2)
    (hz : IsZipHeld s.heap z TI TO T f) (hT : s.heap.get? T = some oT) (hTI : IsPair s.heap TI (.ref i1) (.ref i2))
    (h1 : s.heap.IsTupleIter i1 l1 k1) (h2 : s.heap.IsTupleIter i2 l2 k2) (hl1 : s.heap.IsTuple l1 xs) (hl2 : s.heap.IsTuple l2 ys) (hx : xs[k1]? = some x) (hy : ys[k2]? = some y)
    (hQ : ∀ h', IsZipHeld h' z TI TO T true → h'.IsTupleIter i1 l1 (k1 + 1) → h'.IsTupleIter i2 l2 (k2 + 1) → IsPair h' s.heap.objs.size x y → h'.objs.size = s.heap.objs.size + 1 →
      (∀ c o, c ≠ z → c ≠ i1 → c ≠ i2 → s.heap.get? c = some o → h'.get? c = some o) → Q (some (.ref s.heap.objs.size)) { s with heap := h' }) :
    wpAny (model prog w) A (pyNext (.ref z)) Q E s := by
  have hTy : s.TypeIs (.ref z) "zip" := ⟨_, hz, rfl⟩
  unfold pyNext
  refine wpAny_bind (wpAny_attempt (wpAny_callSpecial?_slot (name := Str.ofString "__next__") hTy F.slot_zip_next
    (wpAny_call_entry F.slot_zip_next hTy F.entry_zip_next ?_ (F.args_zip_next_1 _))))
  show wpAny _ _ (field (.ref z) 2 >>= _) _ _ _
  refine wpAny_bind (wpAny_field hz rfl (x := .bool false) rfl ?_)
  show wpAny _ _ (field (.ref z) 3 >>= _) _ _ _
  refine wpAny_bind (wpAny_field hz rfl (x := .ref TI) rfl ?_)
  refine wpAny_bind (wpAny_seqItems hTI rfl ?_)
  show wpAny _ _ (Builtin.SmallTypes.ownedTupleIsFree (.ref z) >>= _) _ _ _
  refine wpAny_bind (wpAny_tupleHeld_zip hz hT fun h₁ hz₁ hs₁ => ?_)
  simp only [Bool.false_eq_true, if_false]
  refine wpAny_bind ?_
  rw [← Array.forIn_toList]
  simp only [List.forIn_cons, List.forIn_nil]
  refine wpAny_bind (wpAny_bind (wpAny_holding ?_))
  show wpAny _ _ (Builtin.SmallTypes.nextOf (.ref i1) >>= _) _ _ _
  refine wpAny_bind (RZ.nextOf_tuple_item (s := { s with heap := h₁ }) (h1.extBut hs₁.extBut D.i1z) (hl1.extBut hs₁.extBut D.l1z) hx fun h₂ h1₂ hs₂ => wpAny_pure ?_)
  refine wpAny_pure ?_
  refine wpAny_bind (wpAny_bind (wpAny_holding ?_))
  show wpAny _ _ (Builtin.SmallTypes.nextOf (.ref i2) >>= _) _ _ _
  refine wpAny_bind (RZ.nextOf_tuple_item (s := { s with heap := h₂ }) ((h2.extBut hs₁.extBut D.i2z).extBut hs₂.extBut D.i12.symm) ((hl2.extBut hs₁.extBut D.l2z).extBut hs₂.extBut D.l2i1) hy fun h₃ h2₃ hs₃ => wpAny_pure ?_)
  refine wpAny_pure (wpAny_pure ?_)
  show wpAny _ _ (newTuple [x, y] >>= _) _ _ _
  refine wpAny_bind (wpAny_newTuple ?_)
  have hsz : h₃.objs.size = s.heap.objs.size := by rw [hs₃.1, hs₂.1, hs₁.1]
  have hz₃ : IsZipHeld h₃ z TI TO T true := hs₃.extBut _ _ D.i2z.symm (hs₂.extBut _ _ D.i1z.symm hz₁)
  have h1₃ : h₃.IsTupleIter i1 l1 (k1 + 1) := h1₂.extBut hs₃.extBut D.i12
  have hp : IsPair (h₃.push { cls := .type "tuple", data := .seq #[x, y] }) h₃.objs.size x y := Heap.get?_push_size _ rfl
  have hz4 : (h₃.push { cls := .type "tuple", data := .seq #[x, y] }).objs.size = h₃.objs.size + 1 := Heap.size_push ..
  refine wpAny_pure ⟨.ref h₃.objs.size, rfl, wpAny_pure ?_⟩
  rw [hsz] at hp hz4 ⊢
  exact hQ _ (Heap.get?_push_of_some _ hz₃) (h1₃.at fun o e => Heap.get?_push_of_some _ e) (h2₃.at fun o e => Heap.get?_push_of_some _ e) hp hz4 fun c o c1 c2 c3 e =>
    Heap.get?_push_of_some _ (hs₃.extBut _ _ c3 (hs₂.extBut _ _ c2 (hs₁.extBut _ _ c1 e)))
theorem zt_heldEnd {z TI TO T i1 i2 l1 l2 : Addr} {f : Bool} {oT : Obj} {k1 : Nat} {xs : Array Value} {Q : Option Value → Shared → Prop} (hh : A.handled = none) (D : ZipApart z TI TO i1 i2 l1 l2)
    (hz : IsZipHeld s.heap z TI TO T f) (hT : s.heap.get? T = some oT) (hTI : IsPair s.heap TI (.ref i1) (.ref i2))
    (h1 : s.heap.IsTupleIter i1 l1 k1) (hl1 : s.heap.IsTuple l1 xs) (hx : xs[k1]? = none)
    (hQ : ∀ h', (∀ c o, c ≠ z → c ≠ i1 → c ≠ i2 → s.heap.get? c = some o → h'.get? c = some o) → Q none { s with heap := h' }) : wpAny (model prog w) A (pyNext (.ref z)) Q E s := by
  have hTy : s.TypeIs (.ref z) "zip" := ⟨_, hz, rfl⟩
  unfold pyNext
  refine wpAny_bind (wpAny_attempt (wpAny_callSpecial?_slot (name := Str.ofString "__next__") hTy F.slot_zip_next
    (wpAny_call_entry F.slot_zip_next hTy F.entry_zip_next ?_ (F.args_zip_next_1 _))))
  show wpAny _ _ (field (.ref z) 2 >>= _) _ _ _
  refine wpAny_bind (wpAny_field hz rfl (x := .bool false) rfl ?_)
  show wpAny _ _ (field (.ref z) 3 >>= _) _ _ _
  refine wpAny_bind (wpAny_field hz rfl (x := .ref TI) rfl ?_)
  refine wpAny_bind (wpAny_seqItems hTI rfl ?_)
  show wpAny _ _ (Builtin.SmallTypes.ownedTupleIsFree (.ref z) >>= _) _ _ _
  refine wpAny_bind (wpAny_tupleHeld_zip hz hT fun h₁ hz₁ hs₁ => ?_)
  simp only [Bool.false_eq_true, if_false]
  refine wpAny_bind ?_
  rw [← Array.forIn_toList]
  simp only [List.forIn_cons, List.forIn_nil]
  refine wpAny_bind (wpAny_bind (wpAny_holding ?_))
  show wpAny _ _ (Builtin.SmallTypes.nextOf (.ref i1) >>= _) _ _ _
  refine wpAny_bind (RZ.nextOf_tuple_end (s := { s with heap := h₁ }) hh (h1.extBut hs₁.extBut D.i1z) (hl1.extBut hs₁.extBut D.l1z) hx fun h₂ e hs₂ he => ?_)
  obtain ⟨o, ho, hc⟩ := he
  refine wpAny_bind (wpAny_isInstance (T := "StopIteration") (b := true) ⟨o, ho, hc⟩ isSubtype_stop ?_)
  exact wpAny_pure (hQ _ fun c o c1 c2 _ x => hs₂ _ _ c2 (hs₁.extBut _ _ c1 x))
end
/-- an iterator I whose items go into the list at S: what is known after i items vs -/
structure WkH (prog : Program) (w : World) (A : Around) (I S : Addr) (n : Nat) (kp : Addr → Prop) (St : Nat → List Value → Heap → Prop) (Fi : List Value → Heap → Prop) : Prop where
  frame : ∀ i vs h h', St i vs h → h.objs.size ≤ h'.objs.size → (∀ b o, b ≠ S → h.get? b = some o → h'.get? b = some o) → St i vs h'
  item : ∀ i vs (s : Shared) (Q : Option Value → Shared → Prop) (E : Value → Shared → Prop), i < n → St i vs s.heap →
    (∀ v h', St (i + 1) (vs ++ [v]) h' → (∀ b o, kp b → s.heap.get? b = some o → h'.get? b = some o) → Q (some v) { s with heap := h' }) → wpAny (model prog w) A (pyNext (.ref I)) Q E s
  done : ∀ vs (s : Shared) (Q : Option Value → Shared → Prop) (E : Value → Shared → Prop), St n vs s.heap → (∀ h', Fi vs h' → (∀ b o, kp b → s.heap.get? b = some o → h'.get? b = some o) → Q none { s with heap := h' }) → wpAny (model prog w) A (pyNext (.ref I)) Q E s
  self : ∀ vs (s : Shared) (Q : Value → Shared → Prop) (E : Value → Shared → Prop), St 0 vs s.heap → Q (.ref I) s → wpAny (model prog w) A (pyIter (.ref I)) Q E s
section
variable {prog : Program} {w : World} {A : Around} {s : Shared} {I S : Addr} {n : Nat} {kp : Addr → Prop} {St : Nat → List Value → Heap → Prop} {Fi : List Value → Heap → Prop}
theorem loopW {R : Result → Shared → Prop} (W : WkH prog w A.in1 I S n kp St Fi) (kS : kp S) (hn : n ≤ sizeLine) (res : Value) {h₁ : Heap}
    (hR : ∀ h' tk acc c, (∀ b o, b ≠ S → kp b → h₁.get? b = some o → h'.get? b = some o) → h'.get? S = some { cls := .type "list", dict := none, data := .seq acc c, slots := #[] } → Fi acc.toList h' → acc.size = n → R (.ok (.ret res)) { s with heap := h', toks := tk }) :
    ∀ (k i : Nat) (h : Heap) (tk c : Nat) (acc : Array Value), n - i = k → i ≤ n → St i acc.toList h → acc.size = i → (∀ b o, b ≠ S → kp b → h₁.get? b = some o → h.get? b = some o) →
      h.get? S = some { cls := .type "list", dict := none, data := .seq acc c, slots := #[] } →
      codeAny (model prog w) A (.builtin "list.extend.loop" ⟨[.ref S, .ref I, res], []⟩) R { s with heap := h, toks := tk } := by
  intro k
  induction k with
  | zero =>
    intro i h tk c acc hk hi hst hsz hkeep hS
    obtain rfl : i = n := by omega
    refine codeAny_builtin F.entry_extend_loop ?_
    rw [Around.under_plainId F.plain_extend_loop _]
    show wpAny _ A.in1 (pyNext (.ref I) >>= _) _ _ _
    refine wpAny_bind (W.done acc.toList { s with heap := h, toks := tk } _ _ hst fun h' fi kp' => ?_)
    exact wpAny_pure (hR h' tk acc c (fun b o h1 h2 e => kp' b o h2 (hkeep b o h1 h2 e)) (kp' S _ kS hS) fi hsz)
  | succ k ih =>
    intro i h tk c acc hk hi hst hsz hkeep hS
    have hlt : i < n := by omega
    refine codeAny_builtin F.entry_extend_loop ?_
    rw [Around.under_plainId F.plain_extend_loop _]
    show wpAny _ A.in1 (pyNext (.ref I) >>= _) _ _ _
    refine wpAny_bind (W.item i acc.toList { s with heap := h, toks := tk } _ _ hlt hst fun v h' st' kp' => ?_)
    dsimp only at kp' ⊢
    have hS' := kp' S _ kS hS
    have up : ∀ b o, b ≠ S → h'.get? b = some o → (h'.update S (Obj.mapSeq (·.push v))).get? b = some o := fun b o hb e => (Heap.get?_update_other _ _ (Ne.symm hb)).trans e
    show wpAny _ A.in1 (updateSeq S (·.push v) >>= _) _ _ _
    refine wpAny_bind ?_
    refine wpAny_updateSeq hS' rfl (wpAny_pure ⟨plainId_quiet F.plain_extend_loop _, ih (i + 1) _ tk _ (acc.push v) (by omega) hlt ?_ (by rw [Array.size_push, hsz])
      (fun b o h1 h2 e => up b o h1 (kp' b o h2 (hkeep b o h1 h2 e))) (Heap.get?_update_self _ hS' rfl)⟩) (by rw [hsz]; omega) (by show (acc.push v).size ≤ sizeLine + 1; rw [Array.size_push, hsz]; omega)
    rw [Array.toList_push]
    exact W.frame _ _ h' _ st' (by rw [Heap.size_update]; exact Nat.le_refl _) up
end
section
variable {prog : Program} {w : World} {A : Around} {E : Value → Shared → Prop} {s : Shared} {I : Addr} {n : Nat} {kp : Addr → Prop} {St : Nat → List Value → Heap → Prop} {Fi : List Value → Heap → Prop}
theorem list_W {T : String} {Q : Value → Shared → Prop} (hl : typeLookup (.type T) "__len__" = pure none) (hn0 : typeLookup (.type T) "__length_hint__" = pure none)
    (t2 : (Value.type T == Value.type "list") = false) (t3 : (Value.type T == Value.type "tuple") = false)
    (W : WkH prog w A.in1.in1 I s.heap.objs.size n kp St Fi) (kS : kp s.heap.objs.size) (hT : ∀ i vs (s : Shared), St i vs s.heap → s.TypeIs (.ref I) T) (hst : ∀ o, St 0 [] (s.heap.push o)) (hI : I < s.heap.objs.size)
    (hQ : ∀ h' tk acc c, (∀ b o, kp b → s.heap.get? b = some o → h'.get? b = some o) → h'.get? s.heap.objs.size = some { cls := .type "list", dict := none, data := .seq acc c, slots := #[] } → Fi acc.toList h' → acc.size = n → Q (.ref s.heap.objs.size) { s with heap := h', toks := tk }) (hn : n ≤ sizeLine) :
    wpAny (model prog w) A (call (.type "list") [.ref I]) Q E s := by
  have hSI : s.heap.objs.size ≠ I := Nat.ne_of_gt hI
  refine callType_codes (Q₁ := fun obj s₁ => obj = .ref s.heap.objs.size ∧ s₁ = { s with heap := s.heap.push { cls := .type "list", data := .seq #[] } }) F.called_list (F.typeCall_list_1 _) F.entry_list_init
    (code_list_new _ ⟨rfl, rfl⟩) fun obj s₁ h₁ => ?_
  obtain ⟨rfl, rfl⟩ := h₁
  have hS : (s.heap.push { cls := .type "list", data := .seq #[] }).get? s.heap.objs.size = some { cls := .type "list", data := .seq #[] } := Heap.get?_push_size _ rfl
  have st0 := hst { cls := .type "list", data := .seq #[] }
  refine ⟨⟨_, hS, rfl⟩, F.args_list_init_2 _ _, ?_⟩
  show wpAny _ A.in1.in1 (do let old ← Builtin.List.listItems (.ref s.heap.objs.size); Builtin.List.listUpdate (.ref s.heap.objs.size) (fun _ => #[]); letGo old.toList.reverse; Builtin.List.listExtendWith (.ref s.heap.objs.size) (.ref I) .none) _ _ _
  refine wpAny_bind ?_
  unfold Builtin.List.listItems
  refine wpAny_bind (wpAny_seqItems hS rfl (wpAny_pure ?_))
  show wpAny _ A.in1.in1 (updateSeq s.heap.objs.size (fun _ => #[]) >>= fun _ => letGo (#[] : Array Value).toList.reverse >>= fun _ => Builtin.List.listExtendWith (.ref s.heap.objs.size) (.ref I) .none) _ _ _
  refine wpAny_bind (wpAny_updateSeq hS rfl ?_)
  have hS2 := Heap.get?_update_self (Obj.mapSeq (fun _ => (#[] : Array Value))) hS rfl
  have up : ∀ (h : Heap) (f : Obj → Obj) b o, b ≠ s.heap.objs.size → h.get? b = some o → (h.update s.heap.objs.size f).get? b = some o := fun h f b o hb e => (Heap.get?_update_other _ _ (Ne.symm hb)).trans e
  have st1 := W.frame _ _ _ ((s.heap.push { cls := .type "list", data := .seq #[] }).update s.heap.objs.size (Obj.mapSeq (fun _ => (#[] : Array Value)))) st0 (by rw [Heap.size_update]; exact Nat.le_refl _) (up _ _)
  have k1 : ∀ b o, b ≠ s.heap.objs.size → kp b → s.heap.get? b = some o → ((s.heap.push { cls := .type "list", data := .seq #[] }).update s.heap.objs.size (Obj.mapSeq (fun _ => (#[] : Array Value)))).get? b = some o := fun b o hb _ e => up _ _ b o hb (Heap.get?_push_of_some _ e)
  refine wpAny_bind (wpAny_letGo ?_)
  unfold Builtin.List.listExtendWith
  refine wpAny_bind (wpAny_typeOf (T := T) (hT 0 [] { s with heap := _ } st1) ?_)
  have t1 : Builtin.List.listSameRef (.ref s.heap.objs.size) (.ref I) = false := by simp [Builtin.List.listSameRef, hSI]
  simp only [t1, t2, t3, Bool.or_false, Bool.false_eq_true, if_false]
  refine wpAny_bind (W.self [] _ _ _ st1 ?_)
  refine wpAny_bind (wpAny_holding ?_)
  unfold Builtin.List.listLengthHint
  refine wpAny_bind (wpAny_specialOf (hT 0 [] { s with heap := _ } st1) hl ?_)
  show wpAny _ A.in1.in1 (specialOf (Value.ref I) (Str.ofString "__length_hint__") >>= _) _ _ _
  refine wpAny_bind (wpAny_specialOf (hT 0 [] { s with heap := _ } st1) hn0 ?_)
  refine wpAny_pure ?_
  show wpAny _ A.in1.in1 (rule "list.extend.makes-room" >>= fun _ => Builtin.List.listTouch (.ref s.heap.objs.size) >>= fun _ =>
    again (.builtin "list.extend.loop" ⟨[.ref s.heap.objs.size, .ref I, .none], []⟩)) _ _ _
  refine wpAny_bind (wpAny_rule ?_)
  refine wpAny_bind ?_
  show wpAny _ A.in1.in1 (updateSeq s.heap.objs.size (·.push .none) >>= fun _ => updateSeq s.heap.objs.size (·.pop)) _ _ _
  refine wpAny_bind (wpAny_updateSeq hS2 rfl ?_)
  have hS3 := Heap.get?_update_self (Obj.mapSeq (·.push Value.none)) hS2 rfl
  refine wpAny_updateSeq (hz := by seq_fits) hS3 rfl ?_
  have hS4 := Heap.get?_update_self (Obj.mapSeq (·.pop)) hS3 rfl
  refine wpAny_pure ⟨plainId_quiet F.plain_extend_loop _, loopW (s := s) (R := wants (fun r s₂ => r = Value.none ∧ Q (.ref s.heap.objs.size) s₂) E) (h₁ := s.heap) W kS hn .none (fun h' tk acc c kk hS' fi hz => ⟨rfl, hQ h' tk acc c (fun b o kb e => kk b o (Nat.ne_of_lt (Heap.lt_size e)) kb e) hS' fi hz⟩) n 0 _ s.toks _ #[] (Nat.sub_zero _) (Nat.zero_le _) ?_ rfl ?_ hS4⟩
  · exact W.frame _ _ _ _ st1 (by simp only [Heap.size_update]; exact Nat.le_refl _) fun b o hb e => up _ _ b o hb (up _ _ b o hb e)
  · exact fun b o hb kb e => up _ _ b o hb (up _ _ b o hb (k1 b o hb kb e))
end
end LH

namespace LH
open PySem PySem.Spec PyProof.Rows L2
def PrsH (xs ys : Array Value) (lo : Nat) (ts : List Nat) (h : Heap) : Prop := ∀ (j : Nat) (t : Nat), ts[j]? = some t → lo ≤ t ∧ ∃ x y, xs[j]? = some x ∧ ys[j]? = some y ∧ IsPair h t x y
def ZSt (z TI TO i1 i2 l1 l2 lo : Nat) (xs ys : Array Value) : Nat → List Value → Heap → Prop := fun i vs h =>
  lo ≤ h.objs.size ∧ IsPair h TI (.ref i1) (.ref i2) ∧ h.IsTupleIter i1 l1 i ∧ h.IsTupleIter i2 l2 i ∧ h.IsTuple l1 xs ∧ h.IsTuple l2 ys ∧
  ∃ ts : List Nat, vs = ts.map Value.ref ∧ ts.length = i ∧ ts.Nodup ∧ PrsH xs ys lo ts h ∧
    ((i = 0 ∧ IsZip h z TI TO .none ∧ ∃ a b, IsPair h TO a b) ∨ ∃ (T : Nat) (f : Bool), IsZipHeld h z TI TO T f ∧ T ∈ ts)
def ZFi (lo : Nat) (xs ys : Array Value) : List Value → Heap → Prop := fun vs h => ∃ ts : List Nat, vs = ts.map Value.ref ∧ ts.Nodup ∧ PrsH xs ys lo ts h
theorem tup_at {h h' : Heap} {l : Addr} {xs : Array Value} (t : h.IsTuple l xs) (k : ∀ o, h.get? l = some o → h'.get? l = some o) : h'.IsTuple l xs := let ⟨o, ho, r⟩ := t; ⟨o, k o ho, r⟩
theorem walk_zt {prog : Program} {w : World} {A : Around} {z TI TO i1 i2 l1 l2 S lo : Nat} {xs ys : Array Value} (hh : A.handled = none) (D : ZipApart z TI TO i1 i2 l1 l2) (hxy : xs.size = ys.size)
    (b1 : z < lo) (b2 : TI < lo) (b3 : TO < lo) (b4 : i1 < lo) (b5 : i2 < lo) (b6 : S < lo) (n1 : z ≠ S) (n2 : TI ≠ S) (n3 : TO ≠ S) (n4 : i1 ≠ S) (n5 : i2 ≠ S) (n6 : l1 ≠ S) (n7 : l2 ≠ S) :
    WkH prog w A z S xs.size (fun b => b ≠ z ∧ b ≠ TO ∧ b ≠ i1 ∧ b ≠ i2) (ZSt z TI TO i1 i2 l1 l2 lo xs ys) (ZFi lo xs ys) where
  frame := fun i vs h h' ⟨a1, a2, a3, a4, a5, a6, ts, a7, a8, a9, a10, a11⟩ hs k => by
    refine ⟨Nat.le_trans a1 hs, k _ _ n2 a2, a3.at fun o e => k _ o n4 e, a4.at fun o e => k _ o n5 e, tup_at a5 fun o e => k _ o n6 e, tup_at a6 fun o e => k _ o n7 e, ts, a7, a8, a9, fun j t hj => ?_, ?_⟩
    · obtain ⟨c1, x, y, c2, c3, c4⟩ := a10 j t hj
      exact ⟨c1, x, y, c2, c3, k _ _ (by (first | omega | (show @Ne Nat _ _; omega) | (show @LT.lt Nat _ _ _; omega) | (show @LE.le Nat _ _ _; omega))) c4⟩
    · rcases a11 with ⟨c1, c2, a, b, c3⟩ | ⟨T, f, c1, c2⟩
      · exact .inl ⟨c1, k _ _ n1 c2, a, b, k _ _ n3 c3⟩
      · exact .inr ⟨T, f, k _ _ n1 c1, c2⟩
  item := fun i vs s Q E hi ⟨a1, a2, a3, a4, a5, a6, ts, a7, a8, a9, a10, a11⟩ hQ => by
    have hx : xs[i]? = some xs[i] := Array.getElem?_eq_getElem hi
    have hy : ys[i]? = some (ys[i]'(by (first | omega | (show @Ne Nat _ _; omega) | (show @LT.lt Nat _ _ _; omega) | (show @LE.le Nat _ _ _; omega)))) := Array.getElem?_eq_getElem (by (first | omega | (show @Ne Nat _ _; omega) | (show @LT.lt Nat _ _ _; omega) | (show @LE.le Nat _ _ _; omega)))
    generalize xs[i] = x at hx
    generalize ys[i]'(by (first | omega | (show @Ne Nat _ _; omega) | (show @LT.lt Nat _ _ _; omega) | (show @LE.le Nat _ _ _; omega))) = y at hy
    have old : ∀ t : Nat, t ∈ ts → lo ≤ t ∧ t < s.heap.objs.size := fun t ht => by
      obtain ⟨j, hj⟩ := List.mem_iff_getElem?.mp ht
      obtain ⟨c1, _, _, _, _, c4⟩ := a10 j t hj
      exact ⟨c1, Heap.lt_size c4⟩
    have nd : (ts ++ [s.heap.objs.size]).Nodup := List.nodup_append.mpr ⟨a9, by simp, fun t ht u hu e => by
      rw [List.mem_singleton.mp hu] at e
      have := (old t ht).2
      (first | omega | (show @Ne Nat _ _; omega) | (show @LT.lt Nat _ _ _; omega) | (show @LE.le Nat _ _ _; omega))⟩
    have prs : ∀ h' : Heap, IsPair h' s.heap.objs.size x y → (∀ c o, c ≠ z → c ≠ TO → c ≠ i1 → c ≠ i2 → s.heap.get? c = some o → h'.get? c = some o) → PrsH xs ys lo (ts ++ [s.heap.objs.size]) h' := fun h' hp hk j t hj => by
      by_cases hl : j < ts.length
      · rw [List.getElem?_append_left hl] at hj
        obtain ⟨c1, x', y', c2, c3, c4⟩ := a10 j t hj
        exact ⟨c1, x', y', c2, c3, hk _ _ (by (first | omega | (show @Ne Nat _ _; omega) | (show @LT.lt Nat _ _ _; omega) | (show @LE.le Nat _ _ _; omega))) (by (first | omega | (show @Ne Nat _ _; omega) | (show @LT.lt Nat _ _ _; omega) | (show @LE.le Nat _ _ _; omega))) (by (first | omega | (show @Ne Nat _ _; omega) | (show @LT.lt Nat _ _ _; omega) | (show @LE.le Nat _ _ _; omega))) (by (first | omega | (show @Ne Nat _ _; omega) | (show @LT.lt Nat _ _ _; omega) | (show @LE.le Nat _ _ _; omega))) c4⟩
      · rw [List.getElem?_append_right (by (first | omega | (show @Ne Nat _ _; omega) | (show @LT.lt Nat _ _ _; omega) | (show @LE.le Nat _ _ _; omega)))] at hj
        have e : j - ts.length = 0 := by
          cases q : j - ts.length with
          | zero => rfl
          | succ k =>
            rw [q] at hj
            simp at hj
        rw [e] at hj
        cases hj
        have ej : j = i := by (first | omega | (show @Ne Nat _ _; omega) | (show @LT.lt Nat _ _ _; omega) | (show @LE.le Nat _ _ _; omega))
        subst ej
        exact ⟨a1, x, y, hx, hy, hp⟩
    rcases a11 with ⟨c1, c2, a, b, c3⟩ | ⟨T, f, c1, c2⟩
    · refine RZ.pyNext_zipT_item D c2 a2 c3 a3 a4 a5 a6 hx hy fun h' z' TO' h1' h2' hT hsz hk => ?_
      refine hQ _ h' ⟨by (first | omega | (show @Ne Nat _ _; omega) | (show @LT.lt Nat _ _ _; omega) | (show @LE.le Nat _ _ _; omega)), hk _ _ D.TIz D.TITO D.TIi1 D.TIi2 a2, h1', h2', tup_at a5 fun o e => hk _ o D.l1z D.l1TO D.l1i1 D.l1i2 e, tup_at a6 fun o e => hk _ o D.l2z D.l2TO D.l2i1 D.l2i2 e, ts ++ [s.heap.objs.size], ?_, ?_, nd, prs h' hT hk, .inr ⟨s.heap.objs.size, false, z', List.mem_append_right _ (List.mem_singleton.mpr rfl)⟩⟩ fun b o kb e => hk b o kb.1 kb.2.1 kb.2.2.1 kb.2.2.2 e
      · rw [a7, List.map_append]
        rfl
      · rw [List.length_append, a8]
        rfl
    · obtain ⟨j, hj⟩ := List.mem_iff_getElem?.mp c2
      obtain ⟨_, _, _, _, _, c4⟩ := a10 j T hj
      refine zt_held D c1 c4 a2 a3 a4 a5 a6 hx hy fun h' z' h1' h2' hT hsz hk => ?_
      refine hQ _ h' ⟨by (first | omega | (show @Ne Nat _ _; omega) | (show @LT.lt Nat _ _ _; omega) | (show @LE.le Nat _ _ _; omega)), hk _ _ D.TIz D.TIi1 D.TIi2 a2, h1', h2', tup_at a5 fun o e => hk _ o D.l1z D.l1i1 D.l1i2 e, tup_at a6 fun o e => hk _ o D.l2z D.l2i1 D.l2i2 e, ts ++ [s.heap.objs.size], ?_, ?_, nd, prs h' hT fun c o q1 _ q3 q4 e => hk c o q1 q3 q4 e, .inr ⟨T, true, z', List.mem_append_left _ c2⟩⟩ fun b o kb e => hk b o kb.1 kb.2.2.1 kb.2.2.2 e
      · rw [a7, List.map_append]
        rfl
      · rw [List.length_append, a8]
        rfl
  done := fun vs s Q E ⟨a1, a2, a3, a4, a5, a6, ts, a7, a8, a9, a10, a11⟩ hQ => by
    have hx : xs[xs.size]? = none := Array.getElem?_eq_none (Nat.le_refl _)
    have prs : ∀ h' : Heap, (∀ c o, c ≠ z → c ≠ TO → c ≠ i1 → c ≠ i2 → s.heap.get? c = some o → h'.get? c = some o) → PrsH xs ys lo ts h' := fun h' hk j t hj => by
      obtain ⟨c1, x', y', c2, c3, c4⟩ := a10 j t hj
      exact ⟨c1, x', y', c2, c3, hk _ _ (by (first | omega | (show @Ne Nat _ _; omega) | (show @LT.lt Nat _ _ _; omega) | (show @LE.le Nat _ _ _; omega))) (by (first | omega | (show @Ne Nat _ _; omega) | (show @LT.lt Nat _ _ _; omega) | (show @LE.le Nat _ _ _; omega))) (by (first | omega | (show @Ne Nat _ _; omega) | (show @LT.lt Nat _ _ _; omega) | (show @LE.le Nat _ _ _; omega))) (by (first | omega | (show @Ne Nat _ _; omega) | (show @LT.lt Nat _ _ _; omega) | (show @LE.le Nat _ _ _; omega))) c4⟩
    rcases a11 with ⟨c1, c2, a, b, c3⟩ | ⟨T, f, c1, c2⟩
    · exact RZ.pyNext_zipT_end hh D c2 a2 c3 a3 a4 a5 a6 (.inl hx) fun h' hk => hQ h' ⟨ts, a7, a9, prs h' hk⟩ fun b o kb e => hk b o kb.1 kb.2.1 kb.2.2.1 kb.2.2.2 e
    · obtain ⟨j, hj⟩ := List.mem_iff_getElem?.mp c2
      obtain ⟨_, _, _, _, _, c4⟩ := a10 j T hj
      exact zt_heldEnd hh D c1 c4 a2 a3 a5 hx fun h' hk => hQ h' ⟨ts, a7, a9, prs h' fun c o q1 _ q3 q4 e => hk c o q1 q3 q4 e⟩ fun b o kb e => hk b o kb.1 kb.2.2.1 kb.2.2.2 e
  self := fun vs s Q E ⟨_, _, _, _, _, _, ts, _, a8, _, _, a11⟩ h => by
    rcases a11 with ⟨c1, c2, _⟩ | ⟨T, f, c1, c2⟩
    · exact wpAny_pyIter_zip c2 h
    · rw [List.length_eq_zero_iff.mp a8] at c2
      exact absurd c2 (by simp)
theorem zt_type {z TI TO i1 i2 l1 l2 lo : Nat} {xs ys : Array Value} (i : Nat) (vs : List Value) (s : Shared) (h : ZSt z TI TO i1 i2 l1 l2 lo xs ys i vs s.heap) : s.TypeIs (.ref z) "zip" := by
  obtain ⟨_, _, _, _, _, _, ts, _, _, _, _, a11⟩ := h
  rcases a11 with ⟨c1, c2, _⟩ | ⟨T, f, c1, c2⟩
  · exact ⟨_, c2, rfl⟩
  · exact ⟨_, c1, rfl⟩
theorem zip_nolen : typeLookup (.type "zip") "__len__" = pure none := by rw [typeLookup_type, builtinLookup_eq_fast]; kernel_rfl
theorem zip_nohint : typeLookup (.type "zip") "__length_hint__" = pure none := by rw [typeLookup_type, builtinLookup_eq_fast]; kernel_rfl
/-- pairs of the parts of two rows -/
def PrV (H : Hp) (xs ys : List V) (bas : List Addr) : Prop := bas.length = xs.length ∧ ∀ (j : Nat) (c : Addr), bas[j]? = some c → ∃ x y, xs[j]? = some x ∧ ys[j]? = some y ∧ H c = some (.tup [x, y])
def tListZip (K : PySem.W.Frag) (ta : TA) : TE := fun σ H Q => ta σ H fun vs H1 => ∃ (a b : Addr) (xs ys : List V), vs = [.ref a, .ref b] ∧ SqT K H1 a xs ∧ SqT K H1 b ys ∧ xs.length = ys.length ∧
  ∀ (H' : Hp) (p : Addr) (bas : List Addr), Same H1 H' → H1 p = none → H' p = some (.lst (vr bas)) → PrV H' xs ys bas → Q (.ref p) H'
theorem pe_listZip {X : Cx} {e e2 : Expr} {ta : TA} {p p2 q pos : Pos} (K : PySem.W.Frag) (hK : X.K = K) (hg : Gl X "list") (hm : X.mg "list" = none) (hg2 : Gl X "zip") (hm2 : X.mg "zip" = none) (ha : PA X [e, e2] ta) (hc : X.calm = true := by rfl)
    (hs : starEach [e, e2] X.env = (false, eval e X.env) :: starEach [e2] X.env := by rfl) (hpl : (backTo q (starEach [e2] X.env)).any (·.1) = false := by rfl) : PE X (.Call (.Name "list" p) [.Call (.Name "zip" p2) [e, e2] [] q] [] pos) (tListZip K ta) := by
  subst hK
  refine ⟨fun pins s σ H Q I h => ?_⟩
  refine Call_ (ld_blt I hg hm boot_list ?_)
  refine callWith_type1 (args_cons ?_ rfl) rfl rfl
  refine Call_ (ld_blt I hg2 hm2 boot_zip ?_)
  refine callWith_type1 (thn (ha.run q pins s σ H _ I h) fun us s1 ⟨vs, H1, I1, r1, q1⟩ => ?_) hs hpl
  obtain ⟨a, b, xs, ys, rfl, hqx, hqy, hlen, q1⟩ := q1
  cases r1 with
  | cons r rr =>
    cases rr with
    | cons r' rr =>
      cases rr
      cases r
      cases r'
      obtain ⟨its, rv, p1, hz1⟩ := I1.tuple hqx
      obtain ⟨its2, rv2, p2', _⟩ := I1.tuple hqy
      obtain ⟨o1, ho1, _⟩ := id p1
      obtain ⟨o2, ho2, _⟩ := id p2'
      have la : @LT.lt Nat _ a s1.heap.objs.size := Heap.lt_size ho1
      have lb : @LT.lt Nat _ b s1.heap.objs.size := Heap.lt_size ho2
      have l1 := rv.length
      have l2 := rv2.length
      refine RZ.call_zipT (show s1.heap.IsTuple a its.toArray from p1) (show s1.heap.IsTuple b its2.toArray from p2') fun h' hz hTI hTO h1 h2 hsz hk => ?_
      refine args_nil ?_
      have D := PySem.W.ktu_apart s1.heap.objs.size a b la lb
      have hh : X.A.handled = none := I1.ok.hd hc
      have W := walk_zt (prog := X.prog) (w := X.w) (A := X.A.in1.in1) (S := h'.objs.size) (lo := h'.objs.size + 1) (xs := its.toArray) (ys := its2.toArray) hh D (by rw [List.size_toArray, List.size_toArray]; (first | omega | (show @Ne Nat _ _; omega) | (show @LT.lt Nat _ _ _; omega) | (show @LE.le Nat _ _ _; omega)))
        (by (first | omega | (show @Ne Nat _ _; omega) | (show @LT.lt Nat _ _ _; omega) | (show @LE.le Nat _ _ _; omega))) (by (first | omega | (show @Ne Nat _ _; omega) | (show @LT.lt Nat _ _ _; omega) | (show @LE.le Nat _ _ _; omega))) (by (first | omega | (show @Ne Nat _ _; omega) | (show @LT.lt Nat _ _ _; omega) | (show @LE.le Nat _ _ _; omega))) (by (first | omega | (show @Ne Nat _ _; omega) | (show @LT.lt Nat _ _ _; omega) | (show @LE.le Nat _ _ _; omega))) (by (first | omega | (show @Ne Nat _ _; omega) | (show @LT.lt Nat _ _ _; omega) | (show @LE.le Nat _ _ _; omega))) (by (first | omega | (show @Ne Nat _ _; omega) | (show @LT.lt Nat _ _ _; omega) | (show @LE.le Nat _ _ _; omega))) (by (first | omega | (show @Ne Nat _ _; omega) | (show @LT.lt Nat _ _ _; omega) | (show @LE.le Nat _ _ _; omega))) (by (first | omega | (show @Ne Nat _ _; omega) | (show @LT.lt Nat _ _ _; omega) | (show @LE.le Nat _ _ _; omega))) (by (first | omega | (show @Ne Nat _ _; omega) | (show @LT.lt Nat _ _ _; omega) | (show @LE.le Nat _ _ _; omega))) (by (first | omega | (show @Ne Nat _ _; omega) | (show @LT.lt Nat _ _ _; omega) | (show @LE.le Nat _ _ _; omega))) (by (first | omega | (show @Ne Nat _ _; omega) | (show @LT.lt Nat _ _ _; omega) | (show @LE.le Nat _ _ _; omega))) (by (first | omega | (show @Ne Nat _ _; omega) | (show @LT.lt Nat _ _ _; omega) | (show @LE.le Nat _ _ _; omega))) (by (first | omega | (show @Ne Nat _ _; omega) | (show @LT.lt Nat _ _ _; omega) | (show @LE.le Nat _ _ _; omega)))
      refine list_W (s := { s1 with heap := h' }) zip_nolen zip_nohint (by decide) (by decide) W ⟨by show h'.objs.size ≠ _; omega, by show h'.objs.size ≠ _; omega, by show h'.objs.size ≠ _; omega, by show h'.objs.size ≠ _; (first | omega | (show @Ne Nat _ _; omega) | (show @LT.lt Nat _ _ _; omega) | (show @LE.le Nat _ _ _; omega))⟩ (fun i vs s st => zt_type i vs s st) (fun o => ?_) (by show _ < h'.objs.size; (first | omega | (show @Ne Nat _ _; omega) | (show @LT.lt Nat _ _ _; omega) | (show @LE.le Nat _ _ _; omega))) (fun h2 tk acc c kk hS fi hn => ?_) (by rw [List.size_toArray, ← l1]; exact hz1)
      · exact ⟨by show _ ≤ (h'.push o).objs.size; rw [Heap.size_push]; exact Nat.le_refl _, Heap.get?_push_of_some _ hTI, h1.at fun o e => Heap.get?_push_of_some _ e, h2.at fun o e => Heap.get?_push_of_some _ e, tup_at p1 fun o e => Heap.get?_push_of_some _ (hk _ _ e), tup_at p2' fun o e => Heap.get?_push_of_some _ (hk _ _ e), [], rfl, rfl, List.nodup_nil, fun j t hj => by simp at hj, .inl ⟨rfl, Heap.get?_push_of_some _ hz, _, _, Heap.get?_push_of_some _ hTO⟩⟩
      · obtain ⟨ts, ea, nd, prs⟩ := fi
        dsimp only at kk hS
        have up : ∀ b o, s1.heap.get? b = some o → h2.get? b = some o := fun b o e => by
          have : @LT.lt Nat _ b s1.heap.objs.size := Heap.lt_size e
          exact kk b o ⟨by (first | omega | (show @Ne Nat _ _; omega) | (show @LT.lt Nat _ _ _; omega) | (show @LE.le Nat _ _ _; omega)), by (first | omega | (show @Ne Nat _ _; omega) | (show @LT.lt Nat _ _ _; omega) | (show @LE.le Nat _ _ _; omega)), by (first | omega | (show @Ne Nat _ _; omega) | (show @LT.lt Nat _ _ _; omega) | (show @LE.le Nat _ _ _; omega)), by (first | omega | (show @Ne Nat _ _; omega) | (show @LT.lt Nat _ _ _; omega) | (show @LE.le Nat _ _ _; omega))⟩ (hk b o e)
        have hts : ts.length = xs.length := by
          have : acc.toList.length = ts.length := by rw [ea, List.length_map]
          rw [Array.length_toList, hn, List.size_toArray] at this
          omega
        have I2 : Inv X pins σ (upd H1 h'.objs.size (.lst (vr ts))) { s1 with heap := h2, toks := tk } := I1.laid (t' := tk) (a := h'.objs.size) (o := .lst (vr ts)) up (by (first | omega | (show @Ne Nat _ _; omega) | (show @LT.lt Nat _ _ _; omega) | (show @LE.le Nat _ _ _; omega))) ⟨by rw [List.length_map, hts]; exact hz1, acc.toList, c, by rw [ea]; exact vals_refs ts, by rw [Array.toArray_toList]; exact hS⟩
        have fS : H1 h'.objs.size = none := I1.hok.fresh (by (first | omega | (show @Ne Nat _ _; omega) | (show @LT.lt Nat _ _ _; omega) | (show @LE.le Nat _ _ _; omega)))
        obtain ⟨H2, I3, g, trk⟩ := L2.DX.takeT (P := fun c vs => ∀ j, ts[j]? = some c → ∃ x y, xs[j]? = some x ∧ ys[j]? = some y ∧ vs = [x, y]) I1 ts _ I2 nd fun c hc => by
          obtain ⟨j, hj⟩ := List.mem_iff_getElem?.mp hc
          obtain ⟨hlo, u, u2, hu, hu2, hp⟩ := prs j c hj
          obtain ⟨x, hx, rx⟩ := L2.DX.pget rv (by simpa using hu)
          obtain ⟨y, hy, ry⟩ := L2.DX.pget rv2 (by simpa using hu2)
          refine ⟨by (first | omega | (show @Ne Nat _ _; omega) | (show @LT.lt Nat _ _ _; omega) | (show @LE.le Nat _ _ _; omega)), by rw [upd_ne (by (first | omega | (show @Ne Nat _ _; omega) | (show @LT.lt Nat _ _ _; omega) | (show @LE.le Nat _ _ _; omega)))]; exact I1.hok.fresh (by (first | omega | (show @Ne Nat _ _; omega) | (show @LT.lt Nat _ _ _; omega) | (show @LE.le Nat _ _ _; omega))), [x, y], fun j' hj' => ?_, fun H2 => ⟨by show 2 ≤ sizeLine; decide, [u, u2], .cons rx (.cons ry .nil), ⟨_, hp, rfl, _, rfl⟩⟩⟩
          have ej : j' = j := by
            have d1 := (List.getElem?_eq_some_iff.mp hj').1
            have d2 := (List.getElem?_eq_some_iff.mp hj).1
            exact (List.getElem_inj nd).mp (by rw [(List.getElem?_eq_some_iff.mp hj').2, (List.getElem?_eq_some_iff.mp hj).2])
          subst ej
          exact ⟨x, y, hx, hy, rfl⟩
        refine ⟨.ref h'.objs.size, H2, I3, rfl, q1 H2 h'.objs.size ts (fun b o e => g b o (by rw [upd_ne (ne_of_none e fS)]; exact e)) fS (g _ _ upd_same) ⟨hts, fun j c hj => ?_⟩⟩
        obtain ⟨vs, hv, e⟩ := trk c (List.mem_of_getElem? hj)
        obtain ⟨x, y, hx, hy, rfl⟩ := hv j hj
        exact ⟨x, y, hx, hy, e⟩
end LH

namespace LH
open PySem PySem.Spec PyProof.Rows L2 NdefX LamX
/-! ### x in t, t a tuple of data of any depth -/
def rInDT (K : PySem.W.Frag) : R2 := fun x y H Q => ∃ d ds, Dp K H x d ∧ Dp K H y (.tuple ds) ∧ SeqAt.shaped d = true ∧ SeqAt.shaped (.tuple ds) = true ∧ Q (.bl (ds.any fun z => PyData.eqv z d)) H
theorem op_inDT {X : Cx} (K : PySem.W.Frag) (hK : X.K = K) (hu : X.A.units + 65 < cLine) : OpR X (compareOp .In) (rInDT K) := by
  subst hK
  intro pins s σ H x y v u Q I rx ry h
  obtain ⟨d, ds, hd, he, sd, se, q⟩ := h
  obtain ⟨as, r1⟩ := Dp.reads I d x v hd rx
  obtain ⟨bs, r2⟩ := Dp.reads I (.tuple ds) y u he ry
  exact SeqAt.in_tuple_reads r2 r1 (SeqAt.canLay_of_shaped se) (SeqAt.canLay_of_shaped sd) (room_in_shaped sd hu) ⟨.bl _, H, I, rfl, q⟩
abbrev dB (b : Bool × Bool) : PyData := .tuple [.bool b.1, .bool b.2]
abbrev dW (bs : List (Bool × Bool)) : List PyData := bs.map dB
def WA (H : Hp) : List Addr → List (Bool × Bool) → Prop
  | [], [] => True
  | q :: qs, b :: bs => H q = some (.tup [.bl b.1, .bl b.2]) ∧ WA H qs bs
  | _, _ => False
theorem WA.mono {H H' : Hp} (k : ∀ b xs, H b = some (.tup xs) → H' b = some (.tup xs)) : ∀ {qs : List Addr} {bs : List (Bool × Bool)}, WA H qs bs → WA H' qs bs
  | [], [], _ => trivial
  | _ :: _, _ :: _, h => ⟨k _ _ h.1, WA.mono k h.2⟩
  | [], _ :: _, h => h.elim
  | _ :: _, [], h => h.elim
theorem WA.dp {K : PySem.W.Frag} {H : Hp} : ∀ {qs : List Addr} {bs : List (Bool × Bool)}, WA H qs bs → DpAll K H (vr qs) (dW bs)
  | [], [], _ => .nil
  | _ :: _, _ :: _, h => .cons (.tup (.inl (.inl h.1)) (.cons (.bl _) (.cons (.bl _) .nil))) (WA.dp h.2)
  | [], _ :: _, h => h.elim
  | _ :: _, [], h => h.elim
theorem eqv_dB (a b : Bool × Bool) : PyData.eqv (dB a) (dB b) = decide (a = b) := by
  obtain ⟨a1, a2⟩ := a
  obtain ⟨b1, b2⟩ := b
  cases a1 <;> cases a2 <;> cases b1 <;> cases b2 <;> decide
theorem any_dW (b : Bool × Bool) : ∀ bs : List (Bool × Bool), ((dW bs).any fun z => PyData.eqv z (dB b)) = decide (b ∈ bs)
  | [] => by simp
  | a :: bs => by
    show (PyData.eqv (dB a) (dB b) || (dW bs).any fun z => PyData.eqv z (dB b)) = _
    rw [any_dW b bs, eqv_dB]
    by_cases z : a = b
    · subst z
      simp
    · have z' : ¬ b = a := fun e => z e.symm
      simp [z, z']
theorem room65 {k : Nat} {A : Around} (r : Room k A) : A.units + 65 < cLine := by have := r.un; omega
section
variable {P : Program} {w : World} {K : PySem.W.Frag} {mg : Str → Option Value} {base : Heap}
/-! ### the functions that paired makes -/
abbrev st_follow2 : Stmt := (defBody s_paired).getD 4 (.Pass ⟨0, 0, 0, 0⟩)
abbrev st_is_end2 : Stmt := (defBody s_paired).getD 5 (.Pass ⟨0, 0, 0, 0⟩)
abbrev q_follow2 : Str := (("paired" : Str) ++ ".<locals>.") ++ "follow"
abbrev q_is_end2 : Str := (("paired" : Str) ++ ".<locals>.") ++ "is_end"
abbrev nf_follow2 (cl : List (Str × Addr)) (c : Addr) : NF := NF.of st_follow2 "follow" q_follow2 cl c
abbrev nf_is_end2 (cl : List (Str × Addr)) (c : Addr) : NF := NF.of st_is_end2 "is_end" q_is_end2 cl c
def sp_follow2 : List (Option V) → Sp := fun ws vs H Q _ => ∃ (t1 t2 a1 a2 p : Addr) (as1 as2 : List Addr) (r1 r2 : List Nat) (s1 s2 : Nat), ws = [some (.ref t1), some (.ref t2)] ∧ vs = [.ref p] ∧ H p = some (.tup [.int (s1 : Int), .int (s2 : Int)]) ∧
  H t1 = some (.tup (vr as1)) ∧ as1[s1]? = some a1 ∧ H a1 = some (.tup (vi r1)) ∧ H t2 = some (.tup (vr as2)) ∧ as2[s2]? = some a2 ∧ H a2 = some (.tup (vi r2)) ∧ r1.length = r2.length ∧
  ∀ H' b bas, Same H H' → H b = none → H' b = some (.lst (vr bas)) → PrV H' (vi r1) (vi r2) bas → Q (.ref b) H'
theorem ok_follow2 (T : TX K mg) {f c : Addr} {cl : List (Str × Addr)} : NOk P w K mg base CX0 1 f (nf_follow2 cl c) ["pair"] ["first_table", "second_table"] sp_follow2 := by
  refine nok_of (N := ["pair", "first_table", "second_table", "first", "second"]) (nscope_by (by kernel_rfl)) (fun doc pm ctv us hl => match us, hl with | [_], _ => rfl) (fun ws vs H Q E h => ?_) (fun A outer s H vs ws Q E hr hf hc hl h => ?_)
  · obtain ⟨t1, t2, a1, a2, p, as1, as2, r1, r2, s1, s2, rfl, rfl, _⟩ := h
    rfl
  · obtain ⟨t1, t2, a1, a2, p, as1, as2, r1, r2, s1, s2, rfl, rfl, hp, ht1, ha1, hr1, ht2, ha2, hr2, hl12, q⟩ := h
    have nd : (["pair", "first_table", "second_table", "first", "second"] : List Str).Nodup := by decide
    refine ⟨_, PSs.nox (pss_cons (ps_asg (pv 0) (pg_tupK (n := 2) K rfl (by rfl) (pgs_cons (pg_name (i := 3) nd rfl (Or.inl rfl)) (pgs_cons (pg_name (i := 4) nd rfl (Or.inl rfl)) pgs_nil))))
      (pss_one (ps_ret (pe_listZip K rfl (by rfl) T.m_list (by rfl) T.m_zip (pa_cons (pe_ix (ix_tupK K rfl) (pv 1) (pv 3) (fun _ _ => rfl)) (pa_cons (pe_ix (ix_tupK K rfl) (pv 2) (pv 4) (fun _ _ => rfl)) pa_nil)))))), ?_⟩
    refine ⟨.ref p, rfl, p, _, rfl, .inl (.inl hp), rfl, .int (s1 : Int), _, rfl, .int (s2 : Int), [], rfl, rfl, ?_⟩
    refine ⟨.ref t1, rfl, .int (s1 : Int), rfl, t1, _, (s1 : Int), .ref a1, rfl, rfl, .inl (.inl ht1), atI_nat ?_, .ref t2, rfl, .int (s2 : Int), rfl, t2, _, (s2 : Int), .ref a2, rfl, rfl, .inl (.inl ht2), atI_nat ?_, a1, a2, _, _, rfl, .inl (.inl hr1), .inl (.inl hr2), ?_, q⟩
    · rw [List.getElem?_map, ha1]
      rfl
    · rw [List.getElem?_map, ha2]
      rfl
    · rw [List.length_map, List.length_map]
      exact hl12
def sp_is_end2 : List (Option V) → Sp := fun ws vs H Q _ => ∃ (m1 m2 wt p : Addr) (qs : List Addr) (bs1 bs2 : List Bool) (b1 b2 : Bool) (wbs : List (Bool × Bool)) (s1 s2 : Nat), ws = [some (.ref m1), some (.ref m2), some (.ref wt)] ∧ vs = [.ref p] ∧ H p = some (.tup [.int (s1 : Int), .int (s2 : Int)]) ∧
  H m1 = some (.lst (bs1.map V.bl)) ∧ bs1[s1]? = some b1 ∧ H m2 = some (.lst (bs2.map V.bl)) ∧ bs2[s2]? = some b2 ∧ H wt = some (.tup (vr qs)) ∧ WA H qs wbs ∧ SeqAt.shaped (.tuple (dW wbs)) = true ∧
  ∀ H', Same H H' → Q (.bl (decide ((b1, b2) ∈ wbs))) H'
theorem ok_is_end2 {f c : Addr} {cl : List (Str × Addr)} : NOk P w K mg base CX0 1 f (nf_is_end2 cl c) ["pair"] ["first_marks", "second_marks", "wanted"] sp_is_end2 := by
  refine nok_of (N := ["pair", "first_marks", "second_marks", "wanted", "first", "second"]) (nscope_by (by kernel_rfl)) (fun doc pm ctv us hl => match us, hl with | [_], _ => rfl) (fun ws vs H Q E h => ?_) (fun A outer s H vs ws Q E hr hf hc hl h => ?_)
  · obtain ⟨m1, m2, wt, p, qs, bs1, bs2, b1, b2, wbs, s1, s2, rfl, rfl, _⟩ := h
    rfl
  · obtain ⟨m1, m2, wt, p, qs, bs1, bs2, b1, b2, wbs, s1, s2, rfl, rfl, hp, hm1, hb1, hm2, hb2, hwt, wa, sh, q⟩ := h
    have nd : (["pair", "first_marks", "second_marks", "wanted", "first", "second"] : List Str).Nodup := by decide
    refine ⟨_, PSs.nox (pss_cons (ps_asg (pv 0) (pg_tupK (n := 2) K rfl (by rfl) (pgs_cons (pg_name (i := 4) nd rfl (Or.inl rfl)) (pgs_cons (pg_name (i := 5) nd rfl (Or.inl rfl)) pgs_nil))))
      (pss_one (ps_ret (pe_cmpR (op_inDT K rfl (room65 hr)) (pe_tup (pa_cons (pe_ix (ix_listK K rfl) (pv 1) (pv 4) (fun _ _ => rfl)) (pa_cons (pe_ix (ix_listK K rfl) (pv 2) (pv 5) (fun _ _ => rfl)) pa_nil))) (pv 3) (by rfl))))), ?_⟩
    refine ⟨.ref p, rfl, p, _, rfl, .inl (.inl hp), rfl, .int (s1 : Int), _, rfl, .int (s2 : Int), [], rfl, rfl, ?_⟩
    refine ⟨.ref m1, rfl, .int (s1 : Int), rfl, m1, _, (s1 : Int), .bl b1, rfl, rfl, .inl (.inl hm1), atI_nat ?_, .ref m2, rfl, .int (s2 : Int), rfl, m2, _, (s2 : Int), .bl b2, rfl, rfl, .inl (.inl hm2), atI_nat ?_, by show 2 ≤ sizeLine; decide, fun t nt => ?_⟩
    · rw [List.getElem?_map, hb1]
      rfl
    · rw [List.getElem?_map, hb2]
      rfl
    · refine ⟨.ref wt, rfl, dB (b1, b2), dW wbs, .tup (.inl (.inl upd_same)) (.cons (.bl _) (.cons (.bl _) .nil)), .tup (.inl (.inl (same_new nt _ _ hwt))) (WA.dp (wa.mono fun b xs e => same_new nt _ _ e)), ?_, sh, ?_⟩
      · cases b1 <;> cases b2 <;> decide
      · rw [any_dW]
        exact q _ (same_new nt)
end
end LH

namespace LH
open PySem PySem.Spec PyProof.Rows L2 NdefX LamX
theorem free_follow2 : ∀ y ∈ (C8.fnScope st_follow2).names, y.2 = .free → (defScope s_paired).names.lookup y.1 = some .cell ∨ (defScope s_paired).names.lookup y.1 = some .free := by decide +kernel
theorem free_is_end2 : ∀ y ∈ (C8.fnScope st_is_end2).names, y.2 = .free → (defScope s_paired).names.lookup y.1 = some .cell ∨ (defScope s_paired).names.lookup y.1 = some .free := by decide +kernel
def nm_paired : Nat → Nat → Str := fun l _ => if l = lineOf st_follow2 then q_follow2 else q_is_end2
abbrev xP (P : Program) (w : World) (K : PySem.W.Frag) (mg : Str → Option Value) (base : Heap) (f c : Addr) (A : Around) (outer : List Env) (s : Shared) (H : Hp) (E : XK) : Cx := (cxOf CX0 P w K mg base N_paired "paired" (defScope s_paired) f (.ref c) A outer s H E).nox
/-- the pair's row: pairs of the two rows' states -/
def pRow (M1 M2 : Mach) (s : Nat) : List Nat := (M1.rows.getD (s / M2.rows.length) []).zipWith (fun a b => a * M2.rows.length + b) (M2.rows.getD (s % M2.rows.length) [])
def pFin (M1 M2 : Mach) (wbs : List (Bool × Bool)) (s : Nat) : Bool := decide ((decide (s / M2.rows.length ∈ M1.ends), decide (s % M2.rows.length ∈ M2.ends)) ∈ wbs)
theorem pr_lt {n1 n2 a b : Nat} (ha : a < n1) (hb : b < n2) : a * n2 + b < n1 * n2 := by
  have h := Nat.mul_le_mul_right n2 (show a + 1 ≤ n1 from ha)
  rw [Nat.add_mul, Nat.one_mul] at h
  omega
theorem pr_div {n2 a b : Nat} (hb : b < n2) : (a * n2 + b) / n2 = a := by
  rw [Nat.mul_comm, Nat.mul_add_div (by omega), Nat.div_eq_of_lt hb, Nat.add_zero]
theorem pr_mod {n2 a b : Nat} (hb : b < n2) : (a * n2 + b) % n2 = b := by
  rw [Nat.mul_comm, Nat.mul_add_mod, Nat.mod_eq_of_lt hb]
section
variable {P : Program} {w : World} {K : PySem.W.Frag} {mg : Str → Option Value} {base : Heap}
theorem cap_f2 {f c : Addr} {A : Around} {outer : List Env} {s : Shared} {H : Hp} {E : XK} (ok : (xP P w K mg base f c A outer s H E).Ok) : Caps (xP P w K mg base f c A outer s H E) (cloFrom (xP P w K mg base f c A outer s H E).env.cells (C8.fnScope st_follow2).names []) ["first_table", "second_table"] [5, 6] := Caps.made ok free_follow2 (by decide +kernel) rfl
theorem cap_e2 {f c : Addr} {A : Around} {outer : List Env} {s : Shared} {H : Hp} {E : XK} (ok : (xP P w K mg base f c A outer s H E).Ok) : Caps (xP P w K mg base f c A outer s H E) (cloFrom (xP P w K mg base f c A outer s H E).env.cells (C8.fnScope st_is_end2).names []) ["first_marks", "second_marks", "wanted"] [3, 4, 2] := Caps.made ok free_is_end2 (by decide +kernel) rfl
theorem cap_a2 {f c : Addr} {A : Around} {outer : List Env} {s : Shared} {H : Hp} {E : XK} : Caps (xP P w K mg base f c A outer s H E) (xP P w K mg base f c A outer s H E).env.cells ["first_table", "second_table", "first_marks", "second_marks", "wanted"] [5, 6, 3, 4, 2] := ⟨fun _ _ e => e, by
  intro y hy
  simp only [List.mem_cons, List.mem_nil_iff, or_false] at hy
  rcases hy with rfl | rfl | rfl | rfl | rfl
  · exact .inl rfl
  · exact .inl rfl
  · exact .inl rfl
  · exact .inl rfl
  · exact .inl rfl, fun _ _ _ e => e, rfl⟩
def sp_paired (tabs : List NTab) : Sp := fun vs H Q _ => ∃ (m1 m2 wt : Addr) (M1 M2 : Mach) (qs : List Addr) (wbs : List (Bool × Bool)), vs = [.ref m1, .ref m2, .ref wt] ∧ MachAt H m1 M1 ∧ M1.Ok ∧ MachAt H m2 M2 ∧ M2.Ok ∧ M2.z = M1.z ∧ H wt = some (.tup (vr qs)) ∧ WA H qs wbs ∧ SeqAt.shaped (.tuple (dW wbs)) = true ∧ M1.rows.length * M2.rows.length ≤ 1000000 ∧ TabsN tabs H ∧
  ∀ H' p (M' : Mach) ks tbl hl, ExtN H H' → TabsN tabs H' → MachAt H' p M' → M'.z = M1.z → BuiltOk (M1.rows.length * M2.rows.length) M1.z.length (pRow M1 M2) 0 (pFin M1 M2 wbs) M' ks tbl hl → Q (.ref p) H'
theorem ok_paired (T : TX K mg) {c PT : Addr} {tabs : List NTab} (F : FunC K "paired" "paired" s_paired T.a_paired T.fd_paired c) (TB : TabB base mg c PT) (hin : (PT, nm_paired) ∈ tabs) (huq : ∀ p ∈ tabs, p.1 = PT → p.2 = nm_paired) : FnOk P w K mg base CX0 7 T.a_paired T.fd_paired ["one", "other", "wanted"] (sp_paired tabs) := by
  have G_end_marks : FnOk P w K mg base CX0 1 T.a_end_marks T.fd_end_marks ["machine"] sp_end_marks := ok_end_marks T
  have G_built : FnOk P w K mg base CX0 6 T.a_built T.fd_built ["letters", "start", "follow", "is_end"] (sp_built2 P w K mg base) := ok_built2 T
  refine F.ok sc_paired (fun vs H Q E h => ?_) (fun A outer s H vs Q E hr h => ?_)
  · obtain ⟨m1, m2, wt, M1, M2, qs, wbs, rfl, _⟩ := h
    rfl
  · obtain ⟨m1, m2, wt, M1, M2, qs, wbs, rfl, hM1, k1, hM2, k2, hz, hwt, wa, sh, hb, tb0, q⟩ := h
    have hb1 : M1.rows.length ≤ 1000000 := Nat.le_trans (Nat.le_mul_of_pos_right _ k2.many) hb
    have hb2 : M2.rows.length ≤ 1000000 := Nat.le_trans (Nat.le_mul_of_pos_left _ k1.many) hb
    refine ⟨_, (pss_cons (ps_set (i := 3) sc_paired.nd rfl (Or.inr rfl) (pe_call G_end_marks (hr.mono (by decide)) (by rfl) T.g_end_marks T.F_end_marks.kp T.b_end_marks .nil pass0 (pa_cons (pv 0) pa_nil)))
        (pss_cons (ps_set (i := 4) sc_paired.nd rfl (Or.inr rfl) (pe_call G_end_marks (hr.mono (by decide)) (by rfl) T.g_end_marks T.F_end_marks.kp T.b_end_marks .nil pass0 (pa_cons (pv 1) pa_nil)))
        (pss_cons (ps_set (i := 5) sc_paired.nd rfl (Or.inr rfl) (pe_ix (ix_tupK K rfl) (pv 0) pe_int (fun _ _ => rfl)))
        (pss_cons (ps_set (i := 6) sc_paired.nd rfl (Or.inr rfl) (pe_ix (ix_tupK K rfl) (pv 1) pe_int (fun _ _ => rfl)))
        (pss_cons (ps_ndefMS (st := st_follow2) (i := 7) rfl TB rfl hin (by kernel_rfl) huq free_follow2 rfl rfl rfl sc_paired.nd rfl (Or.inl rfl) (Or.inr rfl))
        (pss_cons (ps_ndefMS (st := st_is_end2) (i := 8) rfl TB rfl hin (by kernel_rfl) huq free_is_end2 rfl rfl rfl sc_paired.nd rfl (Or.inl rfl) (Or.inr rfl))
        (pss_one (ps_ret (pe_callTr G_built (hr.mono (by decide)) (by rfl) T.g_built T.F_built.kp T.b_built (fun _ => cap_a2) (fun _ => rfl) (pa_cons (pe_ix (ix_tupK K rfl) (pv 0) pe_int (fun _ _ => rfl)) (pa_cons (pe_tup (pa_cons pe_int (pa_cons pe_int pa_nil))) (pa_cons (pv 7) (pa_cons (pv 8) pa_nil))))))))))))), ?_⟩
    obtain ⟨t1, e1, as1, h11, h12, h13, h14⟩ := id hM1
    obtain ⟨t2, e2, as2, h21, h22, h23, h24⟩ := id hM2
    refine ⟨.ref m1, rfl, m1, M1, rfl, hM1, k1, by omega, fun Ha mk1 sma fmk1 emk1 => ?_⟩
    refine ⟨.ref m2, rfl, m2, M2, rfl, hM2.mono fun b xs eb => sma _ _ eb, k2, by omega, fun H1 mk2 smb fmk2 emk2 => ?_⟩
    have sm1 : Same H H1 := sma.trans smb
    refine ⟨.ref m1, rfl, m1, _, (1 : Int), .ref t1, rfl, rfl, .inl (.inl (sm1 _ _ h11)), rfl, ?_⟩
    refine ⟨.ref m2, rfl, m2, _, (1 : Int), .ref t2, rfl, rfl, .inl (.inl (sm1 _ _ h21)), rfl, ?_⟩
    refine ⟨tb0.ext sm1, fun f1 c1 H2 ex2 ng2 tb2 nf1 ef1 ec1 => ?_⟩
    refine ⟨tb2, fun f2 c2 H3 ex3 ng3 tb3 nf2 ef2 ec2 => ?_⟩
    have s13 : ∀ b o, H1 b = some o → (∀ ps, o ≠ .tbl ps) → H3 b = some o := fun b o eb n => ex3 b o (ex2 b o eb n) n
    have nt : ∀ (xs : List V) ps, HO.tup xs ≠ .tbl ps := by
      intro xs ps z
      cases z
    refine ⟨.ref m1, rfl, m1, _, (0 : Int), .str M1.z, rfl, rfl, .inl (.inl (s13 _ _ (sm1 _ _ h11) (nt _))), rfl, by show 2 ≤ sizeLine; decide, fun p0 np0 => ?_⟩
    refine ⟨.ref f1, rfl, .ref f2, rfl, rfl, fun ok H4 hout hnone CT => ?_⟩
    -- what stood stands
    have s30 : Same H3 (upd H3 p0 (.tup [.int 0, .int 0])) := same_new np0
    have e0 : (upd H3 p0 (.tup [.int 0, .int 0])) p0 = some (.tup [.int 0, .int 0]) := upd_same
    generalize upd H3 p0 (.tup [.int 0, .int 0]) = H3' at s30 e0 hout hnone
    have f31 : H3' f1 = some (FnO f1 (nf_follow2 (cloFrom (xP P w K mg base T.a_paired c A outer s H E).env.cells (C8.fnScope st_follow2).names []) c1)) := s30 _ _ (ex3 f1 _ ef1 fun ps => fnO_ne ps)
    have c31 : H3' c1 = some (CodeO c1 q_follow2) := s30 _ _ (ex3 c1 _ ec1 fun ps => codeO_ne ps)
    have f32 : H3' f2 = some (FnO f2 (nf_is_end2 (cloFrom (xP P w K mg base T.a_paired c A outer s H E).env.cells (C8.fnScope st_is_end2).names []) c2)) := s30 _ _ ef2
    have c32 : H3' c2 = some (CodeO c2 q_is_end2) := s30 _ _ ec2
    have nin : ∀ b o, H3' b = some o → ¬ inC (xP P w K mg base T.a_paired c A outer s H E).env.cells b := fun b o eb z => by
      have := hnone b z
      rw [eb] at this
      cases this
    have up : ∀ b o, H3' b = some o → H4 b = some o := fun b o eb => by
      rw [hout b (nin b o eb)]
      exact eb
    have t4 : Tups H H4 := fun b xs eb => up b _ (s30 _ _ (s13 b _ (sm1 _ _ eb) (nt _)))
    have m41 : H4 mk1 = some (.lst ((marksOf M1).map V.bl)) := up _ _ (s30 _ _ (s13 _ _ (smb _ _ emk1) (by intro ps z; cases z)))
    have m42 : H4 mk2 = some (.lst ((marksOf M2).map V.bl)) := up _ _ (s30 _ _ (s13 _ _ emk2 (by intro ps z; cases z)))
    have cellE : ∀ b, inC (xP P w K mg base T.a_paired c A outer s H E).env.cells b → ∃ o, H4 b = some (CellO b o) := fun b z => by
      obtain ⟨y, hy⟩ := z
      obtain ⟨o, v, z1, _⟩ := CT.all y b hy
      exact ⟨o, z1⟩
    have capF := cap_f2 ok
    have capE := cap_e2 ok
    have CF : ∀ H' : Hp, Same H4 H' → CellsT H' (cloFrom (xP P w K mg base T.a_paired c A outer s H E).env.cells (C8.fnScope st_follow2).names []) ["first_table", "second_table"] [some (.ref t1), some (.ref t2)] := fun H' sm => (CT.same fun b o eb => sm _ _ eb).sub capF rfl fun i y hy => by
      match i, hy with
      | 0, hy => exact ⟨0, hy, rfl⟩
      | 1, hy => exact ⟨1, hy, rfl⟩
      | i + 2, hy => simp at hy
    have CE : ∀ H' : Hp, Same H4 H' → CellsT H' (cloFrom (xP P w K mg base T.a_paired c A outer s H E).env.cells (C8.fnScope st_is_end2).names []) ["first_marks", "second_marks", "wanted"] [some (.ref mk1), some (.ref mk2), some (.ref wt)] := fun H' sm => (CT.same fun b o eb => sm _ _ eb).sub capE rfl fun i y hy => by
      match i, hy with
      | 0, hy => exact ⟨2, hy, rfl⟩
      | 1, hy => exact ⟨3, hy, rfl⟩
      | 2, hy => exact ⟨4, hy, rfl⟩
      | i + 3, hy => simp at hy
    have ca1 := Callable.of ((ok_follow2 (P := P) (w := w) (K := K) (mg := mg) (base := base) (f := f1) (c := c1) (cl := cloFrom (xP P w K mg base T.a_paired c A outer s H E).env.cells (C8.fnScope st_follow2).names []) T).mono (show 1 ≤ 4 by decide))
    have ca2 := Callable.of ((ok_is_end2 (P := P) (w := w) (K := K) (mg := mg) (base := base) (f := f2) (c := c2) (cl := cloFrom (xP P w K mg base T.a_paired c A outer s H E).env.cells (C8.fnScope st_is_end2).names [])).mono (show 1 ≤ 4 by decide))
    have pos1 := k1.many
    have pos2 := k2.many
    have hdv : ∀ s', s' < M1.rows.length * M2.rows.length → s' / M2.rows.length < M1.rows.length := fun s' hs' => Nat.div_lt_of_lt_mul (by rw [Nat.mul_comm]; exact hs')
    have hmd : ∀ s', s' % M2.rows.length < M2.rows.length := fun s' => Nat.mod_lt _ pos2
    have hprod : M1.rows.length * M2.rows.length ≤ 1000000 := hb
    have hpos : 0 < M1.rows.length * M2.rows.length := Nat.mul_pos pos1 pos2
    -- a row and what stands in it
    have rows : ∀ s', s' < M1.rows.length * M2.rows.length → ∃ r1 r2, M1.rows[s' / M2.rows.length]? = some r1 ∧ M2.rows[s' % M2.rows.length]? = some r2 ∧ pRow M1 M2 s' = r1.zipWith (fun a b => a * M2.rows.length + b) r2 ∧ r1.length = M1.z.length ∧ r2.length = M1.z.length ∧ (∀ u ∈ r1, u < M1.rows.length) ∧ ∀ u ∈ r2, u < M2.rows.length := fun s' hs' => by
      obtain ⟨r1, a1, a2, a3, a4⟩ := k1.row_at (hdv s' hs')
      obtain ⟨r2, b1, b2, b3, b4⟩ := k2.row_at (hmd s')
      refine ⟨r1, r2, a1, b1, ?_, a3, by rw [b3, hz], a4, b4⟩
      unfold pRow
      rw [a2, b2]
    have lm1 : ∀ {M : Mach} {s' : Nat}, s' < M.rows.length → (marksOf M)[s']? = some (decide (s' ∈ M.ends)) := fun {M s'} hs' => by
      unfold marksOf
      rw [List.getElem?_map, List.getElem?_range hs']
      rfl
    refine ⟨M1.z, p0, f1, f2, _, _, _, _, M2.rows.length, 0, M1.rows.length * M2.rows.length, M1.z.length, pRow M1 M2, pFin M1 M2 wbs, rfl, ?_, up _ _ f31, ca1, up _ _ f32, ca2, hpos, hprod, k1.let_.one, k1.let_.five, fun s' hs' => ?_, fun s' p H' Q' hs' sm hp hQ => ?_, fun s' p H' Q' hs' sm hp hQ => ?_, fun H5 p M' ks tbl hl sm5 mm ez bo => ⟨fun b z => ?_, ?_⟩⟩
    · show H4 p0 = some (.tup [.int ((0 / M2.rows.length : Nat) : Int), .int ((0 % M2.rows.length : Nat) : Int)])
      rw [Nat.zero_div, Nat.zero_mod]
      exact up _ _ e0
    · obtain ⟨r1, r2, _, _, e3, l1, l2, u1, u2⟩ := rows s' hs'
      rw [e3]
      refine ⟨by rw [List.length_zipWith, l1, l2, Nat.min_self], fun t ht => ?_⟩
      obtain ⟨j, hj⟩ := List.mem_iff_getElem?.mp ht
      rw [List.getElem?_zipWith] at hj
      cases ha : r1[j]? with
      | none =>
        rw [ha] at hj
        simp at hj
      | some a =>
        cases hb : r2[j]? with
        | none =>
          rw [ha, hb] at hj
          simp at hj
        | some b =>
          rw [ha, hb] at hj
          have : a * M2.rows.length + b = t := Option.some.inj hj
          rw [← this]
          exact pr_lt (u1 a (List.mem_of_getElem? ha)) (u2 b (List.mem_of_getElem? hb))
    · -- follow
      obtain ⟨r1, r2, g1, g2, e3, l1, l2, u1, u2⟩ := rows s' hs'
      obtain ⟨a1, ea1, _, ha1⟩ := h13.get g1
      obtain ⟨a2, ea2, _, ha2⟩ := h23.get g2
      have nC : ∀ b xs, H' b = some (.tup xs) → hide (inC (cloFrom (xP P w K mg base T.a_paired c A outer s H E).env.cells (C8.fnScope st_follow2).names [])) H' b = some (.tup xs) := fun b xs eb => by
        rw [hide_out (fun z => by
          obtain ⟨y, hy⟩ := z
          obtain ⟨o, v, z1, _⟩ := (CF H' sm).all y b hy
          rw [eb] at z1
          cases z1)]
        exact eb
      refine ⟨[some (.ref t1), some (.ref t2)], sm _ _ (up _ _ f31), sm _ _ (up _ _ c31), CF H' sm, t1, t2, a1, a2, p, as1, as2, r1, r2, s' / M2.rows.length, s' % M2.rows.length, rfl, rfl, nC _ _ hp, nC _ _ (sm _ _ (t4 _ _ h12)), ea1, nC _ _ (sm _ _ (t4 _ _ ha1)), nC _ _ (sm _ _ (t4 _ _ h22)), ea2, nC _ _ (sm _ _ (t4 _ _ ha2)), by rw [l1, l2], fun H6 b bas sm6 nb eb prv h6n => ?_⟩
      have out6 : ∀ (x : Addr) (o : HO), H6 x = some o → ¬ inC (cloFrom (xP P w K mg base T.a_paired c A outer s H E).env.cells (C8.fnScope st_follow2).names []) x := fun x o ex z => by
        rw [h6n x z] at ex
        cases ex
      refine hQ _ b bas (fun x o ex => ?_) ?_ ?_ ⟨?_, fun j p' t' hj ht' => ?_⟩
      · by_cases z : inC (cloFrom (xP P w K mg base T.a_paired c A outer s H E).env.cells (C8.fnScope st_follow2).names []) x
        · exact (back_in z).trans ex
        · exact (back_out z).trans (sm6 _ _ ((hide_out z).trans ex))
      · exact (hide_out (out6 b _ eb)).symm.trans nb
      · exact (back_out (out6 b _ eb)).trans eb
      · rw [prv.1, List.length_map, e3, List.length_zipWith, l1, l2, Nat.min_self]
      · obtain ⟨x, y, hx, hy, e⟩ := prv.2 j p' hj
        obtain ⟨a, ha, rfl⟩ := int_at hx
        obtain ⟨b', hb', rfl⟩ := int_at hy
        rw [e3, List.getElem?_zipWith, ha, hb'] at ht'
        obtain rfl : a * M2.rows.length + b' = t' := Option.some.inj ht'
        have hbl := u2 b' (List.mem_of_getElem? hb')
        show back _ H' H6 p' = some (.tup [.int (((a * M2.rows.length + b') / M2.rows.length : Nat) : Int), .int (((a * M2.rows.length + b') % M2.rows.length : Nat) : Int)])
        exact (back_out (out6 p' _ e)).trans (by rw [pr_div hbl, pr_mod hbl]; exact e)
    · -- is_end
      have nC : ∀ b o, H' b = some o → (∀ x, o ≠ CellO b x) → hide (inC (cloFrom (xP P w K mg base T.a_paired c A outer s H E).env.cells (C8.fnScope st_is_end2).names [])) H' b = some o := fun b o eb n => by
        rw [hide_out (fun z => by
          obtain ⟨y, hy⟩ := z
          obtain ⟨o', v, z1, _⟩ := (CE H' sm).all y b hy
          rw [eb] at z1
          exact n _ (Option.some.inj z1))]
        exact eb
      have nT : ∀ b xs, H' b = some (.tup xs) → hide (inC (cloFrom (xP P w K mg base T.a_paired c A outer s H E).env.cells (C8.fnScope st_is_end2).names [])) H' b = some (.tup xs) := fun b xs eb => nC b _ eb (by intro x z; cases z)
      refine ⟨[some (.ref mk1), some (.ref mk2), some (.ref wt)], sm _ _ (up _ _ f32), sm _ _ (up _ _ c32), CE H' sm, mk1, mk2, wt, p, qs, marksOf M1, marksOf M2, decide (s' / M2.rows.length ∈ M1.ends), decide (s' % M2.rows.length ∈ M2.ends), wbs, s' / M2.rows.length, s' % M2.rows.length, rfl, rfl, nT _ _ hp, nC _ _ (sm _ _ m41) (by intro x z; cases z), lm1 (hdv s' hs'), nC _ _ (sm _ _ m42) (by intro x z; cases z), lm1 (hmd s'), nT _ _ (sm _ _ (t4 _ _ hwt)), wa.mono fun b xs eb => nT _ _ (sm _ _ (t4 _ _ eb)), sh, fun H6 sm6 h6n => ?_⟩
      refine hQ _ fun x o ex => ?_
      by_cases z : inC (cloFrom (xP P w K mg base T.a_paired c A outer s H E).env.cells (C8.fnScope st_is_end2).names []) x
      · exact (back_in z).trans ex
      · exact (back_out z).trans (sm6 _ _ ((hide_out z).trans ex))
    · obtain ⟨o, z1⟩ := cellE b z
      rw [sm5 _ _ z1, z1]
    · have keep : ∀ b o, H3' b = some o → hide (inC (xP P w K mg base T.a_paired c A outer s H E).env.cells) H5 b = some o := fun b o eb => by
        rw [hide_out (nin b o eb)]
        exact sm5 _ _ (up b o eb)
      refine q _ p M' ks tbl hl (fun b o eb n => keep b o (s30 _ _ (s13 b o (sm1 _ _ eb) n))) ((tb3.ext s30).ext fun b o eb => keep b o eb) (mm.mono fun b xs eb => ?_) ez bo
      rw [hide_out (fun z => by
        obtain ⟨o, z1⟩ := cellE b z
        rw [sm5 _ _ z1] at eb
        cases eb)]
      exact eb
end
end LH

namespace LH
open PySem PySem.Spec PyProof.Rows L2 NdefX LamX
/-! ### what the made machines have -/
theorem run_runs (M : Mach) : ∀ (cs : List Nat) (s : Nat), cs.foldl M.step s = runs M.rows s (cs.map fun c => M.z.cps.toList.idxOf c)
  | [], _ => rfl
  | c :: r, s => run_runs M r (M.step s c)
theorem has_runs (M : Mach) (cs : List Nat) : M.has cs = decide (runs M.rows 0 (cs.map fun c => M.z.cps.toList.idxOf c) ∈ M.ends) := by
  unfold Mach.has Mach.run
  rw [run_runs]
theorem cols_lt {z : Str} {cs : List Nat} (h : ∀ c ∈ cs, c ∈ z.cps.toList) : ∀ c ∈ cs.map fun c => z.cps.toList.idxOf c, c < z.length := fun c hc => by
  obtain ⟨d, hd, rfl⟩ := List.mem_map.mp hc
  exact idx_lt (h d hd)
section
variable {n0 L s0 : Nat} {R : Nat → List Nat} {fin : Nat → Bool} {M : Mach} {ks : List Nat} {tbl : List (List Nat)} {hl : List Nat}
theorem BuiltOk.few (b : BuiltOk n0 L R s0 fin M ks tbl hl) : M.rows.length ≤ n0 := by
  rw [b.rows]
  unfold mRows headsOf
  rw [List.length_map]
  have h1 := List.length_filter_le (isHead hl) (List.range hl.length)
  rw [List.length_range, b.hlen] at h1
  have h2 := b.wi.many
  rw [b.hlen]
  omega
theorem BuiltOk.mach (b : BuiltOk n0 L R s0 fin M ks tbl hl) (k : TabOk ks.length L tbl) (hz : IsLet M.z) (hL : L = M.z.length) : M.Ok := by
  have c := b.canon k
  exact ⟨hz, c.one, fun r hr => by rw [← hL]; exact c.row r hr, c.endl, c.rise⟩
end
theorem remade_ok {M M' : Mach} {wanted : Bool} {ks : List Nat} {tbl : List (List Nat)} {hl : List Nat} (b : BuiltOk M.rows.length M.z.length (fun s => M.rows.getD s []) 0 (fun s => decide (decide (s ∈ M.ends) = wanted)) M' ks tbl hl) (k : M.Ok) (ez : M'.z = M.z) (hb : M.rows.length ≤ 1000000) :
    M'.Ok ∧ M'.rows.length ≤ M.rows.length ∧ ∀ cs, (∀ c ∈ cs, c ∈ M.z.cps.toList) → M'.has cs = decide (M.has cs = wanted) := by
  have tk := BuiltOk.tab b.wi b.len b.full k.let_.one k.let_.five hb
  refine ⟨b.mach tk (by rw [ez]; exact k.let_) (by rw [ez]), b.few, fun cs hcs => ?_⟩
  have := b.words tk (cs.map fun c => M.z.cps.toList.idxOf c) (cols_lt hcs)
  rw [has_runs, has_runs, ez]
  have e : runR (fun s => M.rows.getD s []) 0 (cs.map fun c => M.z.cps.toList.idxOf c) = runs M.rows 0 (cs.map fun c => M.z.cps.toList.idxOf c) := rfl
  rw [e] at this
  exact decide_eq_decide.mpr (this.trans decide_eq_true_iff)
theorem runR_pair {M1 M2 : Mach} (k1 : M1.Ok) (k2 : M2.Ok) (hz : M2.z = M1.z) : ∀ (w : List Nat) (a b : Nat), a < M1.rows.length → b < M2.rows.length → (∀ c ∈ w, c < M1.z.length) →
    runR (pRow M1 M2) (a * M2.rows.length + b) w = runs M1.rows a w * M2.rows.length + runs M2.rows b w ∧ runs M1.rows a w < M1.rows.length ∧ runs M2.rows b w < M2.rows.length
  | [], _, _, ha, hb, _ => ⟨rfl, ha, hb⟩
  | c :: w, a, b, ha, hb, hw => by
    have hc := hw c (List.mem_cons_self ..)
    obtain ⟨r1, a1, a2, a3, a4⟩ := k1.row_at ha
    obtain ⟨r2, b1, b2, b3, b4⟩ := k2.row_at hb
    have c1 : c < r1.length := by omega
    have c2 : c < r2.length := by rw [b3, hz]; exact hc
    have d1 : dl M1.rows a c = r1[c] := by
      unfold dl
      rw [a2, List.getD_eq_getElem?_getD, List.getElem?_eq_getElem c1]
      rfl
    have d2 : dl M2.rows b c = r2[c] := by
      unfold dl
      rw [b2, List.getD_eq_getElem?_getD, List.getElem?_eq_getElem c2]
      rfl
    have st : (pRow M1 M2 (a * M2.rows.length + b)).getD c 0 = dl M1.rows a c * M2.rows.length + dl M2.rows b c := by
      unfold pRow
      rw [pr_div hb, pr_mod hb, a2, b2, List.getD_eq_getElem?_getD, List.getElem?_zipWith, List.getElem?_eq_getElem c1, List.getElem?_eq_getElem c2, d1, d2]
      rfl
    have ih := runR_pair k1 k2 hz w (dl M1.rows a c) (dl M2.rows b c) (by rw [d1]; exact a4 _ (List.getElem_mem c1)) (by rw [d2]; exact b4 _ (List.getElem_mem c2)) fun d hd => hw d (List.mem_cons_of_mem _ hd)
    rw [← st] at ih
    exact ih
theorem paired_ok {M1 M2 M' : Mach} {wbs : List (Bool × Bool)} {ks : List Nat} {tbl : List (List Nat)} {hl : List Nat} (b : BuiltOk (M1.rows.length * M2.rows.length) M1.z.length (pRow M1 M2) 0 (pFin M1 M2 wbs) M' ks tbl hl) (k1 : M1.Ok) (k2 : M2.Ok) (hz : M2.z = M1.z) (ez : M'.z = M1.z)
    (hb : M1.rows.length * M2.rows.length ≤ 1000000) : M'.Ok ∧ M'.rows.length ≤ M1.rows.length * M2.rows.length ∧ ∀ cs, (∀ c ∈ cs, c ∈ M1.z.cps.toList) → M'.has cs = decide ((M1.has cs, M2.has cs) ∈ wbs) := by
  have tk := BuiltOk.tab b.wi b.len b.full k1.let_.one k1.let_.five hb
  refine ⟨b.mach tk (by rw [ez]; exact k1.let_) (by rw [ez]), b.few, fun cs hcs => ?_⟩
  have := b.words tk (cs.map fun c => M1.z.cps.toList.idxOf c) (cols_lt hcs)
  obtain ⟨e, l1, l2⟩ := runR_pair k1 k2 hz (cs.map fun c => M1.z.cps.toList.idxOf c) 0 0 k1.many k2.many (cols_lt hcs)
  rw [Nat.zero_mul, Nat.zero_add] at e
  rw [has_runs, has_runs M1, has_runs M2, ez, hz]
  rw [e] at this
  unfold pFin at this
  rw [pr_div l2, pr_mod l2] at this
  exact decide_eq_decide.mpr (this.trans decide_eq_true_iff)
section
variable {P : Program} {w : World} {K : PySem.W.Frag} {mg : Str → Option Value} {base : Heap}
def sp_twoC (tabs : List NTab) (op : Bool → Bool → Bool) : Sp := fun vs H Q _ => ∃ (m1 m2 : Addr) (M1 M2 : Mach), vs = [.ref m1, .ref m2] ∧ MachAt H m1 M1 ∧ M1.Ok ∧ MachAt H m2 M2 ∧ M2.Ok ∧ M2.z = M1.z ∧ M1.rows.length * M2.rows.length ≤ 1000000 ∧ TabsN tabs H ∧
  ∀ H' p (M' : Mach), ExtN H H' → TabsN tabs H' → MachAt H' p M' → M'.z = M1.z → M'.Ok → M'.rows.length ≤ M1.rows.length * M2.rows.length → Canon M1.z.length M'.rows M'.ends → (∀ cs, (∀ c ∈ cs, c ∈ M1.z.cps.toList) → M'.has cs = op (M1.has cs) (M2.has cs)) → Q (.ref p) H'
theorem ok_bothC (T : TX K mg) {tabs : List NTab} (G_paired : FnOk P w K mg base CX0 7 T.a_paired T.fd_paired ["one", "other", "wanted"] (sp_paired tabs)) : FnOk P w K mg base CX0 8 T.a_both T.fd_both ["one", "other"] (sp_twoC tabs and) := by
  refine T.F_both.ok sc_both (fun vs H Q E h => ?_) (fun cdv A outer s H vs Q E hr h => ?_)
  · obtain ⟨m1, m2, M1, M2, rfl, _⟩ := h
    rfl
  · obtain ⟨m1, m2, M1, M2, rfl, hM1, k1, hM2, k2, hz, hb, tb, q⟩ := h
    refine ⟨_, (pss_one (ps_ret (pe_call G_paired (hr.mono (by decide)) (by rfl) T.g_paired T.F_paired.kp T.b_paired .nil pass0 (pa_cons (pv 0) (pa_cons (pv 1) (pa_cons (pe_tup (pa_cons (pe_tup (pa_cons pe_bl (pa_cons pe_bl pa_nil))) pa_nil)) pa_nil)))))), ?_⟩
    refine ⟨.ref m1, rfl, .ref m2, rfl, by show 2 ≤ sizeLine; decide, fun q1 n1 => ⟨by show 1 ≤ sizeLine; decide, fun wt nw => ?_⟩⟩
    have s1 := (same_new n1).trans (same_new (o := .tup [.ref q1]) nw)
    refine ⟨m1, m2, wt, M1, M2, [q1], [(true, true)], rfl, hM1.mono fun b xs e => s1 _ _ e, k1, hM2.mono fun b xs e => s1 _ _ e, k2, hz, upd_same, ⟨same_new nw _ _ upd_same, trivial⟩, by decide, hb, tb.ext s1, fun H' p M' ks tbl hl ex tb' mm ez bo => ?_⟩
    obtain ⟨r1, r2, r3⟩ := paired_ok bo k1 k2 hz ez hb
    have tk := BuiltOk.tab bo.wi bo.len bo.full k1.let_.one k1.let_.five hb
    exact q H' p M' (fun b o e n => ex b o (s1 _ _ e) n) tb' mm ez r1 r2 (bo.canon tk) fun cs hcs => by rw [r3 cs hcs]; cases M1.has cs <;> cases M2.has cs <;> rfl
end
end LH

namespace LH
open PySem PySem.Spec PyProof.Rows L2 NdefX LamX
theorem idx_of_rise {cs : List Nat} (h : cs.Pairwise (· < ·)) {c : Nat} (hc : c < cs.length) : cs.idxOf (cs.getD c 0) = c := by
  have e : cs.getD c 0 = cs[c] := by
    rw [List.getD_eq_getElem?_getD, List.getElem?_eq_getElem hc]
    rfl
  have hm : cs.getD c 0 ∈ cs := by
    rw [e]
    exact List.getElem_mem hc
  have hi := List.idxOf_lt_length_iff.mpr hm
  have g : cs[cs.idxOf (cs.getD c 0)] = cs.getD c 0 := List.getElem_idxOf hi
  rcases Nat.lt_trichotomy (cs.idxOf (cs.getD c 0)) c with l | l | l
  · have := List.pairwise_iff_getElem.mp h _ _ hi hc l
    omega
  · exact l
  · have := List.pairwise_iff_getElem.mp h _ _ hc hi l
    omega
theorem canon_mach {z : Str} {M N : Mach} (k : M.Ok) (hz : M.z = z) (nz : N.z = z) (c : Canon z.length M.rows M.ends) (d : Canon z.length N.rows N.ends) (e : ∀ cs, (∀ c ∈ cs, c ∈ z.cps.toList) → M.has cs = N.has cs) : M = N := by
  have hlet : IsLet z := hz ▸ k.let_
  have q := canon_uniq c d fun w hw => by
    have hcs : ∀ x ∈ w.map (fun c => z.cps.toList.getD c 0), x ∈ z.cps.toList := fun x hx => by
      obtain ⟨c, hc, rfl⟩ := List.mem_map.mp hx
      have hl : c < z.cps.toList.length := by
        rw [Array.length_toList]
        exact hw c hc
      rw [List.getD_eq_getElem?_getD, List.getElem?_eq_getElem hl]
      exact List.getElem_mem hl
    have ew : (w.map fun c => z.cps.toList.getD c 0).map (fun c => z.cps.toList.idxOf c) = w := by
      rw [List.map_map]
      conv => rhs; rw [← List.map_id w]
      refine List.map_congr_left fun c hc => ?_
      exact idx_of_rise hlet.rise (by rw [Array.length_toList]; exact hw c hc)
    have := e _ hcs
    rw [has_runs, has_runs, hz, nz, ew] at this
    exact decide_eq_decide.mp this
  obtain ⟨a, b⟩ := q
  cases M
  cases N
  simp only at a b hz nz
  subst a b hz nz
  rfl
end LH

namespace LH
open PySem PySem.Spec PyProof.Rows L2 NdefX LamX
/-! ### a machine's data -/
def dI (ns : List Nat) : PyData := .tuple (ns.map fun (n : Nat) => PyData.int (n : Int))
def dM (M : Mach) : PyData := .tuple [.str M.z, .tuple (M.rows.map dI), dI M.ends]
theorem dp_ints {K : PySem.W.Frag} {H : Hp} : ∀ ns : List Nat, DpAll K H (vi ns) (ns.map fun (n : Nat) => PyData.int (n : Int))
  | [] => .nil
  | n :: r => .cons (.int _) (dp_ints r)
theorem dp_rows {K : PySem.W.Frag} {H : Hp} : ∀ {as : List Addr} {rows : List (List Nat)}, RowsAt H as rows → DpAll K H (vr as) (rows.map dI)
  | [], [], _ => .nil
  | [], _ :: _, h => nomatch h.1
  | _ :: _, [], h => nomatch h.1
  | a :: as, r :: rows, h => .cons (.tup (.inl (.inl (h.2 0 a r rfl rfl))) (dp_ints r)) (dp_rows ⟨Nat.succ.inj h.1, fun i b p x y => h.2 (i + 1) b p x y⟩)
theorem dp_mach {K : PySem.W.Frag} {H : Hp} {p : Addr} {M : Mach} (h : MachAt H p M) : Dp K H (.ref p) (dM M) := by
  obtain ⟨t, e, as, h1, h2, h3, h4⟩ := h
  exact .tup (.inl (.inl h1)) (.cons (.str _) (.cons (.tup (.inl (.inl h2)) (dp_rows h3)) (.cons (.tup (.inl (.inl h4)) (dp_ints _)) .nil)))
theorem can_ints : ∀ ns : List Nat, PyData.canLayAll0 (ns.map fun (n : Nat) => PyData.int (n : Int)) = true
  | [] => rfl
  | _ :: r => by simp [PyData.canLayAll0, PyData.canLay0, can_ints r]
theorem can_rows : ∀ rows : List (List Nat), PyData.canLayAll0 (rows.map dI) = true
  | [] => rfl
  | r :: rows => by
    have h1 : PyData.canLay0 (dI r) = true := by
      unfold dI
      simp [PyData.canLay0, can_ints]
    simp [PyData.canLayAll0, h1, can_rows rows]
theorem depth_ints : ∀ ns : List Nat, PyData.depthAll (ns.map fun (n : Nat) => PyData.int (n : Int)) = 0
  | [] => rfl
  | _ :: r => by simp [PyData.depthAll, PyData.depth, depth_ints r]
theorem depth_rows : ∀ rows : List (List Nat), PyData.depthAll (rows.map dI) ≤ 1
  | [] => Nat.zero_le _
  | r :: rows => by
    have h1 : PyData.depth (dI r) = 1 := by
      unfold dI
      simp [PyData.depth, depth_ints]
    simp [PyData.depthAll, h1, depth_rows rows]
theorem strOk_let {z : Str} (h : IsLet z) : PyData.strOk z = true := by
  unfold PyData.strOk
  rw [Array.all_eq_true']
  intro c hc
  have := (h.small c (Array.mem_toList_iff.mpr hc)).2
  simp
  omega
theorem can_mach {M : Mach} (k : M.Ok) : (dM M).canLay0 = true := by
  have h1 := strOk_let k.let_
  have h2 : PyData.canLay0 (dI M.ends) = true := by
    unfold dI
    simp [PyData.canLay0, can_ints]
  unfold dM
  simp [PyData.canLay0, PyData.canLayAll0, h1, h2, can_rows]
theorem shaped_mach {M : Mach} (k : M.Ok) : SeqAt.shaped (dM M) = true := by
  unfold SeqAt.shaped
  rw [can_mach k]
  have h1 := depth_rows M.rows
  have h2 : PyData.depth (dI M.ends) = 1 := by
    unfold dI
    simp [PyData.depth, depth_ints]
  have : (dM M).depth ≤ 64 := by
    unfold dM
    simp only [PyData.depth, PyData.depthAll, h2]
    omega
  rw [decide_eq_true this]
  rfl
theorem ne_mach {M : Mach} (k : M.Ok) : (!PyData.eqv (dM M) (dM M)) = false := by
  rw [SeqAt.eqv_refl _ (can_mach k)]
  rfl
theorem shaped_vi (ns : List Nat) : SeqAt.shaped (.list (ns.map fun (n : Nat) => PyData.int (n : Int))) = true := by
  have all : PyData.canLayAll0 (ns.map fun (n : Nat) => PyData.int (n : Int)) = true ∧ PyData.depthAll (ns.map fun (n : Nat) => PyData.int (n : Int)) = 0 := by
    induction ns with
    | nil => exact ⟨rfl, rfl⟩
    | cons n r ih =>
      refine ⟨?_, ?_⟩
      · show (true && PyData.canLayAll0 (r.map fun (n : Nat) => PyData.int (n : Int))) = true
        rw [ih.1]
        rfl
      · show max 0 (PyData.depthAll (r.map fun (n : Nat) => PyData.int (n : Int))) = 0
        rw [ih.2]
        rfl
  unfold SeqAt.shaped
  rw [Bool.and_eq_true]
  refine ⟨all.1, decide_eq_true ?_⟩
  show PyData.depthAll (ns.map fun (n : Nat) => PyData.int (n : Int)) + 1 ≤ 64
  omega
end LH

namespace LH
open PySem PySem.Spec PyProof.Rows L2
def rowOf (M : Mach) (s : Nat) : List Nat := M.rows.getD s []
abbrev tx (cs : List Nat) : Str := ⟨cs.toArray⟩
theorem tx_len (cs : List Nat) : (tx cs).length = cs.length := List.size_toArray
theorem tx_app (a b : List Nat) : tx a ++ tx b = tx (a ++ b) := by
  show (⟨a.toArray ++ b.toArray⟩ : Str) = ⟨(a ++ b).toArray⟩
  congr 1
  apply Array.ext'
  simp
theorem fit5 {n : Nat} (h : n ≤ 10000000) : n < sizeLine := Nat.lt_of_le_of_lt h (by decide)
/-! ### all words of a length, with the states that they come to -/
def ext (M : Mach) (p : List Nat × Nat) : List (List Nat × Nat) := (M.z.cps.toList.zip (rowOf M p.2)).map fun q => (p.1 ++ [q.1], q.2)
def wAll (M : Mach) : Nat → List (List Nat × Nat)
  | 0 => [([], 0)]
  | t + 1 => (wAll M t).flatMap (ext M)
def hope (M : Mach) : Nat → Nat → Bool
  | 0 => fun s => decide (s ∈ M.ends)
  | k + 1 => fun s => (rowOf M s).any (hope M k)
def wordsM (M : Mach) (n : Nat) : List Str := ((wAll M n).filter fun p => hope M 0 p.2).map fun p => tx p.1
theorem ext_at {M : Mach} (k : M.Ok) {p : List Nat × Nat} (hp : p.2 < M.rows.length) {row : List Nat} (er : M.rows.getD p.2 [] = row) {i c u : Nat} (hc : M.z.cps.toList[i]? = some c) (hu : row[i]? = some u) : (ext M p)[i]? = some (p.1 ++ [c], u) := by
  unfold ext rowOf
  rw [er, List.getElem?_map]
  have : (M.z.cps.toList.zip row)[i]? = some (c, u) := by
    rw [List.getElem?_zip_eq_some]
    exact ⟨hc, hu⟩
  rw [this]
  rfl
theorem ext_len {M : Mach} (k : M.Ok) {p : List Nat × Nat} (hp : p.2 < M.rows.length) : (ext M p).length = M.z.length := by
  obtain ⟨row, _, eg, l, _⟩ := k.row_at hp
  unfold ext rowOf
  rw [List.length_map, List.length_zip, eg, l, Array.length_toList]
  exact Nat.min_self _
theorem ext_lt {M : Mach} (k : M.Ok) {p : List Nat × Nat} (hp : p.2 < M.rows.length) : ∀ q ∈ ext M p, q.2 < M.rows.length ∧ q.1.length = p.1.length + 1 := fun q hq => by
  obtain ⟨row, _, eg, _, rt⟩ := k.row_at hp
  unfold ext rowOf at hq
  rw [eg] at hq
  obtain ⟨x, hx, rfl⟩ := List.mem_map.mp hq
  refine ⟨rt _ (List.of_mem_zip hx).2, ?_⟩
  show (p.1 ++ [x.1]).length = _
  rw [List.length_append]
  rfl
theorem wAll_ok {M : Mach} (k : M.Ok) : ∀ t, (wAll M t).length = M.z.length ^ t ∧ ∀ p ∈ wAll M t, p.2 < M.rows.length ∧ p.1.length = t
  | 0 => ⟨rfl, fun p hp => by rw [List.mem_singleton.mp hp]; exact ⟨k.many, rfl⟩⟩
  | t + 1 => by
    obtain ⟨l, h⟩ := wAll_ok k t
    refine ⟨?_, fun q hq => ?_⟩
    · have : ∀ ps : List (List Nat × Nat), (∀ p ∈ ps, p.2 < M.rows.length) → (ps.flatMap (ext M)).length = ps.length * M.z.length := by
        intro ps
        induction ps with
        | nil => intro _; simp
        | cons p r ih =>
          intro hp
          rw [List.flatMap_cons, List.length_append, ih fun x hx => hp x (List.mem_cons_of_mem _ hx), ext_len k (hp p List.mem_cons_self), List.length_cons, Nat.succ_mul, Nat.add_comm]
      show ((wAll M t).flatMap (ext M)).length = _
      rw [this _ fun p hp => (h p hp).1, l, Nat.pow_succ]
    · obtain ⟨p, hp, hq⟩ := List.mem_flatMap.mp hq
      obtain ⟨a, b⟩ := ext_lt k (h p hp).1 q hq
      exact ⟨a, by rw [b, (h p hp).2]⟩
/-! ### pairs of a word and a state -/
end LH

namespace LH
open PySem PySem.Spec PyProof.Rows L2
/-- a dict that has just these numbers -/
def SD (kvs : List (Key × V)) (ss : List Nat) : Prop := kvs.length ≤ ss.length ∧ ∀ s : Nat, (valV kvs (Sum.inl (s : Int) : Key)).isSome = decide (s ∈ ss)
theorem SD.more {kvs : List (Key × V)} {ss : List Nat} {u : Nat} {v : V} (h : SD kvs ss) (_ : u ∉ ss) : SD (putK kvs (Sum.inl (u : Int)) v) (ss ++ [u]) := by
  refine ⟨?_, fun s => ?_⟩
  · have h1 := length_putK kvs (Sum.inl (u : Int) : Key) v
    have h2 := h.1
    rw [List.length_append]
    exact Nat.le_trans h1 (Nat.succ_le_succ h2)
  · rw [valV_put]
    by_cases z : s = u
    · subst z
      rw [if_pos rfl, decide_eq_true (List.mem_append_right _ (by simp))]
      rfl
    · rw [if_neg fun y => z (by have := Sum.inl.inj y; omega), h.2 s]
      congr 1
      simp [z]
end LH

namespace LH
open PySem PySem.Spec PyProof.Rows L2
/-! ### the queue of words and states that are come to first by them -/
def opn (qs es : List (List Nat × Nat)) : List (List Nat × Nat) := es.foldl (fun qs q => if q.2 ∈ qs.map (·.2) then qs else qs ++ [q]) qs
theorem opn_snoc (qs es : List (List Nat × Nat)) (q : List Nat × Nat) : opn qs (es ++ [q]) = if q.2 ∈ (opn qs es).map (·.2) then opn qs es else opn qs es ++ [q] := by
  unfold opn
  rw [List.foldl_append]
  rfl
theorem opn_pre (qs : List (List Nat × Nat)) : ∀ es, ∃ r, opn qs es = qs ++ r ∧ ∀ q ∈ r, q ∈ es := by
  intro es
  induction es generalizing qs with
  | nil => exact ⟨[], (List.append_nil _).symm, fun _ h => nomatch h⟩
  | cons e es ih =>
    by_cases h : e.2 ∈ qs.map (·.2)
    · obtain ⟨r, hr, hm⟩ := ih qs
      refine ⟨r, ?_, fun q hq => List.mem_cons_of_mem _ (hm q hq)⟩
      rw [← hr]
      show opn (if e.2 ∈ qs.map (·.2) then qs else qs ++ [e]) es = _
      rw [if_pos h]
    · obtain ⟨r, hr, hm⟩ := ih (qs ++ [e])
      refine ⟨e :: r, ?_, fun q hq => ?_⟩
      · show opn (if e.2 ∈ qs.map (·.2) then qs else qs ++ [e]) es = _
        rw [if_neg h, hr, List.append_assoc]
        rfl
      · rcases List.mem_cons.mp hq with h | h
        · rw [h]
          exact List.mem_cons_self
        · exact List.mem_cons_of_mem _ (hm q h)
theorem opn_nd {qs : List (List Nat × Nat)} : ∀ {es : List (List Nat × Nat)}, (qs.map (·.2)).Nodup → ((opn qs es).map (·.2)).Nodup := by
  intro es
  induction es generalizing qs with
  | nil => exact id
  | cons e es ih =>
    intro h
    show ((opn (if e.2 ∈ qs.map (·.2) then qs else qs ++ [e]) es).map (·.2)).Nodup
    by_cases he : e.2 ∈ qs.map (·.2)
    · rw [if_pos he]
      exact ih h
    · rw [if_neg he]
      refine ih ?_
      rw [List.map_append, List.nodup_append]
      refine ⟨h, by simp, fun a ha b hb => ?_⟩
      rw [List.map_singleton, List.mem_singleton] at hb
      rw [hb]
      exact fun z => he (z ▸ ha)
def qAt (M : Mach) : Nat → List (List Nat × Nat)
  | 0 => [([], 0)]
  | i + 1 => match (qAt M i)[i]? with
    | some p => opn (qAt M i) (ext M p)
    | none => qAt M i
theorem qAt_go {M : Mach} {i : Nat} {p : List Nat × Nat} (h : (qAt M i)[i]? = some p) : qAt M (i + 1) = opn (qAt M i) (ext M p) := by
  show (match (qAt M i)[i]? with | some p => opn (qAt M i) (ext M p) | none => qAt M i) = _
  rw [h]
theorem qAt_stop {M : Mach} {i : Nat} (h : (qAt M i).length ≤ i) : qAt M (i + 1) = qAt M i := by
  show (match (qAt M i)[i]? with | some p => opn (qAt M i) (ext M p) | none => qAt M i) = _
  rw [List.getElem?_eq_none h]
theorem qAt_pre (M : Mach) (i : Nat) : ∀ d, ∃ r, qAt M (i + d) = qAt M i ++ r
  | 0 => ⟨[], (List.append_nil _).symm⟩
  | d + 1 => by
    obtain ⟨r, hr⟩ := qAt_pre M i d
    cases h : (qAt M (i + d))[i + d]? with
    | none => exact ⟨r, (qAt_stop (List.getElem?_eq_none_iff.mp h)).trans hr⟩
    | some p =>
      obtain ⟨r2, h2, _⟩ := opn_pre (qAt M (i + d)) (ext M p)
      exact ⟨r ++ r2, by rw [show i + (d + 1) = i + d + 1 from rfl, qAt_go h, h2, hr, List.append_assoc]⟩
theorem qAt_end {M : Mach} {i : Nat} (h : (qAt M i).length ≤ i) : ∀ d, qAt M (i + d) = qAt M i
  | 0 => rfl
  | d + 1 => by
    have ih := qAt_end h d
    rw [show i + (d + 1) = i + d + 1 from rfl, qAt_stop (by rw [ih]; omega), ih]
theorem qAt_ok {M : Mach} (k : M.Ok) : ∀ i, ((qAt M i).map (·.2)).Nodup ∧ ∀ p ∈ qAt M i, p.2 < M.rows.length ∧ p.1.length ≤ i
  | 0 => ⟨by show ([0] : List Nat).Nodup; simp, fun p hp => by rw [List.mem_singleton.mp hp]; exact ⟨k.many, Nat.le_refl _⟩⟩
  | i + 1 => by
    obtain ⟨a, b⟩ := qAt_ok k i
    cases h : (qAt M i)[i]? with
    | none =>
      rw [qAt_stop (List.getElem?_eq_none_iff.mp h)]
      exact ⟨a, fun p hp => ⟨(b p hp).1, Nat.le_succ_of_le (b p hp).2⟩⟩
    | some q =>
      rw [qAt_go h]
      refine ⟨opn_nd a, fun p hp => ?_⟩
      obtain ⟨r, hr, hm⟩ := opn_pre (qAt M i) (ext M q)
      rw [hr] at hp
      rcases List.mem_append.mp hp with h5 | h5
      · exact ⟨(b p h5).1, Nat.le_succ_of_le (b p h5).2⟩
      · obtain ⟨c, d⟩ := b q (List.mem_of_getElem? h)
        obtain ⟨e, f⟩ := ext_lt k c p (hm p h5)
        exact ⟨e, by omega⟩
theorem qAt_len {M : Mach} (k : M.Ok) (i : Nat) : (qAt M i).length ≤ M.rows.length := by
  obtain ⟨a, b⟩ := qAt_ok k i
  have := len_le_of_sub a (ys := List.range M.rows.length) fun x hx => by
    obtain ⟨p, hp, rfl⟩ := List.mem_map.mp hx
    exact List.mem_range.mpr (b p hp).1
  rwa [List.length_map, List.length_range] at this
def isE (M : Mach) (p : List Nat × Nat) : Bool := hope M 0 p.2
def leastM (M : Mach) : Option (List Nat) := ((qAt M M.rows.length).find? (isE M)).map (·.1)
theorem find_pre {M : Mach} {qs : List (List Nat × Nat)} {j : Nat} {p : List Nat × Nat} (h : qs[j]? = some p) (hp : isE M p = true) (hn : ∀ q ∈ qs.take j, isE M q = false) : qs.find? (isE M) = some p := by
  have e : qs = qs.take j ++ p :: qs.drop (j + 1) := by
    have h2 := List.drop_eq_getElem?_toList_append (l := qs) (i := j)
    rw [h] at h2
    conv => lhs; rw [← List.take_append_drop j qs, h2]
    rfl
  rw [e, List.find?_append]
  have : (qs.take j).find? (isE M) = none := List.find?_eq_none.mpr fun x hx => by rw [hn x hx]; exact Bool.false_ne_true
  rw [this, List.find?_cons_of_pos hp]
  rfl
theorem qAt_last {M : Mach} (k : M.Ok) {a : Nat} (h : M.rows.length ≤ a) : qAt M a = qAt M M.rows.length := by
  have := qAt_end (qAt_len k M.rows.length) (a - M.rows.length)
  rwa [show M.rows.length + (a - M.rows.length) = a by omega] at this
theorem least_some {M : Mach} (k : M.Ok) {a j : Nat} {p : List Nat × Nat} (h : (qAt M a)[j]? = some p) (hp : isE M p = true) (hn : ∀ q ∈ (qAt M a).take j, isE M q = false) : leastM M = some p.1 := by
  have f := find_pre h hp hn
  unfold leastM
  by_cases ha : M.rows.length ≤ a
  · rw [← qAt_last k ha, f]
    rfl
  · obtain ⟨r, hr⟩ := qAt_pre M a (M.rows.length - a)
    rw [show a + (M.rows.length - a) = M.rows.length by omega] at hr
    rw [hr, List.find?_append, f]
    rfl
theorem least_none {M : Mach} (k : M.Ok) {a : Nat} (h : (qAt M a).length ≤ a) (hn : ∀ q ∈ qAt M a, isE M q = false) : leastM M = none := by
  have f : (qAt M a).find? (isE M) = none := List.find?_eq_none.mpr fun x hx => by rw [hn x hx]; exact Bool.false_ne_true
  unfold leastM
  by_cases ha : M.rows.length ≤ a
  · rw [← qAt_last k ha, f]
    rfl
  · have := qAt_end h (M.rows.length - a)
    rw [show a + (M.rows.length - a) = M.rows.length by omega] at this
    rw [this, f]
    rfl
end LH

namespace LH
open PySem PySem.Spec PyProof.Rows L2
section
variable {X : Cx} (K : PySem.W.Frag) (hK : X.K = K)
include hK
theorem pi_zipK {e e2 : Expr} {ta : TA} {p pos tpos : Pos} {elts : List Expr} {kk : Nat} (hg : Gl X "zip") (hm : X.mg "zip" = none) (ha : PA X [e, e2] ta)
    (hs : starEach [e, e2] X.env = (false, eval e X.env) :: starEach [e2] X.env := by rfl) (hpl : (backTo pos (starEach [e2] X.env)).any (·.1) = false := by rfl) :
    PI X (.Tuple elts kk tpos) (.Call (.Name "zip" p) [e, e2] [] pos) (iZip K ta) := by
  subst hK
  exact pi_zip hg hm ha hs hpl
end
abbrev wS (qs : List (List Nat × Nat)) : List V := qs.map fun p => V.str (tx p.1)
abbrev sS (qs : List (List Nat × Nat)) : List V := qs.map fun p => V.int (p.2 : Int)
theorem SD.one : SD [(Sum.inl (0 : Int), V.bl true)] [0] := by
  refine ⟨Nat.le_refl _, fun s => ?_⟩
  by_cases z : s = 0
  · subst z
    rfl
  · have ne : ¬ (Sum.inl (0 : Int) : Key) = Sum.inl (s : Int) := fun y => z (by have := Sum.inl.inj y; omega)
    rw [valV_neg ne, decide_eq_false (by simpa using z)]
    rfl
theorem SD.put {kvs : List (Key × V)} {qs : List (List Nat × Nat)} {ws : List Nat} {u : Nat} {v : V} (h : SD kvs (qs.map (·.2))) (_ : u ∉ qs.map (·.2)) : SD (putK kvs (Sum.inl (u : Int)) v) ((qs ++ [(ws, u)]).map (·.2)) := by
  refine ⟨?_, fun s => ?_⟩
  · have h1 := length_putK kvs (Sum.inl (u : Int) : Key) v
    have h2 := h.1
    rw [List.length_map] at h2
    rw [List.length_map, List.length_append]
    exact Nat.le_trans h1 (Nat.succ_le_succ h2)
  · rw [valV_put, List.map_append]
    by_cases z : s = u
    · subst z
      rw [if_pos rfl, decide_eq_true (List.mem_append_right _ (by simp))]
      rfl
    · rw [if_neg fun y => z (by have := Sum.inl.inj y; omega), h.2 s]
      congr 1
      simp [z]
theorem opn_le (qs es : List (List Nat × Nat)) : (opn qs es).length ≤ qs.length + es.length := by
  induction es generalizing qs with
  | nil => exact Nat.le_refl _
  | cons e es ih =>
    show (opn (if e.2 ∈ qs.map (·.2) then qs else qs ++ [e]) es).length ≤ qs.length + (es.length + 1)
    by_cases h : e.2 ∈ qs.map (·.2)
    · rw [if_pos h]
      exact Nat.le_trans (ih qs) (by omega)
    · rw [if_neg h]
      refine Nat.le_trans (ih _) ?_
      rw [List.length_append]
      show qs.length + 1 + es.length ≤ _
      omega
section
variable {P : Program} {w : World} {K : PySem.W.Frag} {mg : Str → Option Value} {base : Heap}
def vO : Option (List Nat) → V
  | some x => .str (tx x)
  | none => .non
def sp_least : Sp := fun vs H Q _ => ∃ (m : Addr) (M : Mach), vs = [.ref m] ∧ MachAt H m M ∧ M.Ok ∧ M.rows.length ≤ 900000 ∧ ∀ H', Same H H' → Q (vO (leastM M)) H'
end
end LH

namespace LH
open PySem PySem.Spec PyProof.Rows L2
section
variable {P : Program} {w : World} {K : PySem.W.Frag} {mg : Str → Option Value} {base : Heap}
/-- whence each of the queue came -/
def OrgAt (H : Hp) (os : List Addr) (qs : List (List Nat × Nat)) : Prop := os.length = qs.length ∧ ∀ (i : Nat) (a : Addr) (p : List Nat × Nat), os[i]? = some a → qs[i]? = some p → (i = 0 → p.1 = []) ∧ (i ≠ 0 → ∃ (par ch : Nat) (pp : List Nat × Nat), par < i ∧ qs[par]? = some pp ∧ p.1 = pp.1 ++ [ch] ∧ H a = some (.tup [.int (par : Int), .str (sg ch)]))
theorem sum_sg : ∀ cs : List Nat, ((cs.map sg).map (·.length)).sum = cs.length
  | [] => rfl
  | c :: r => by
    rw [List.map_cons, List.map_cons, List.sum_cons, sum_sg r, List.length_cons, Nat.add_comm]
    rfl
def sp_word_to : Sp := fun vs H Q _ => ∃ (i : Nat) (o : Addr) (os : List Addr) (qs : List (List Nat × Nat)) (p : List Nat × Nat), vs = [.int (i : Int), .ref o] ∧ H o = some (.lst (vr os)) ∧ OrgAt H os qs ∧ qs[i]? = some p ∧ i ≤ 1000000 ∧ ∀ H', Same H H' → Q (.str (tx p.1)) H'
theorem ok_word_to (T : TX K mg) : FnOk P w K mg base CX0 1 T.a_word_to T.fd_word_to ["number", "origins"] sp_word_to := by
  refine T.F_word_to.ok sc_word_to (fun vs H Q E h => ?_) (fun cdv A outer s H vs Q E hr h => ?_)
  · obtain ⟨i, o, os, qs, p, rfl, _⟩ := h
    rfl
  · obtain ⟨i, o, os, qs, p, rfl, ho, hO, hp, hi, q⟩ := h
    refine ⟨_, (pss_cons (ps_set (i := 2) sc_word_to.nd rfl (Or.inl rfl) (pe_lst pa_nil))
      (pss_cons (ps_while PassesOwn.never (pt_cmpR op_ne (pv 0) pe_int (nomark _))
        (pss_cons (ps_asg (pe_ix (ix_listK K rfl) (pv 1) (pv 0) (fun _ _ => rfl)) (pg_tupK (n := 2) K rfl (by rfl) (pgs_cons (pg_name (i := 0) sc_word_to.nd rfl (Or.inl rfl)) (pgs_cons (pg_name (i := 3) sc_word_to.nd rfl (Or.inl rfl)) pgs_nil))))
          (pss_one (ps_expr (pe_bmK K rfl PySem.F.plainAttrs_list PySem.F.slot_list_append PySem.F.type_list_append mt_append (pv 2) (pa_cons (pv 3) pa_nil))))))
      (pss_one (ps_ret (pe_m1 PySem.F.slot_str_join PySem.F.type_str_join (mt_joinK K rfl) pe_str (pe_revLK K rfl (pv 2))))))), ?_⟩
    refine ⟨by show 0 ≤ sizeLine; decide, fun l nl => ?_⟩
    refine ⟨fun num σ H' => Same H H' ∧ ∃ (cs : List Nat) (pp : List Nat × Nat) (y3 : Option V), qs[num]? = some pp ∧ p.1 = pp.1 ++ cs.reverse ∧ H' l = some (.lst ((cs.map sg).map V.str)) ∧ num + cs.length ≤ 1000000 ∧ σ = [some (.int (num : Int)), some (.ref o), some (.ref l), y3], ⟨i, same_new nl, [], p, none, hp, (by simp), upd_same, (by simpa using hi), rfl⟩, fun num σ H1 hW => ?_⟩
    obtain ⟨s1, cs, pp, y3, hpp, ew, el, hl, rfl⟩ := hW
    obtain ⟨a, ha⟩ : ∃ a, os[num]? = some a := ⟨_, List.getElem?_eq_getElem (by rw [hO.1]; exact (List.getElem?_eq_some_iff.mp hpp).1)⟩
    obtain ⟨o1, o2⟩ := hO.2 num a pp ha hpp
    refine ⟨.int (num : Int), rfl, rfl, _, rfl, ?_⟩
    by_cases z : num = 0
    · have ez : (!decide (V.int (num : Int) = V.int 0)) = false := by rw [z]; rfl
      rw [ez]
      refine ⟨⟨"", rfl⟩, .ref l, rfl, l, _, rfl, .inl (.inl el), fun p2 n2 => ?_⟩
      have er : ((cs.map sg).map V.str).reverse = (cs.reverse.map sg).map V.str := by rw [List.map_reverse, List.map_reverse]
      rw [er] at *
      refine ⟨"", p2, cs.reverse.map sg, rfl, rfl, .inl (.inl (.inl upd_same)), ?_, ?_⟩
      · have : ((cs.reverse.map sg).map (·.length)).sum = cs.length := sum_sg cs.reverse |>.trans List.length_reverse
        rw [this, List.length_map, List.length_reverse]
        show cs.length + cs.length * 0 ≤ 16777216
        omega
      · have ej : Txt.join "" (cs.reverse.map sg) = tx p.1 := by
          rw [ew, o1 z, List.nil_append]
          exact join_sg _
        rw [ej]
        exact q _ (s1.trans (same_new n2))
    · have ez : (!decide (V.int (num : Int) = V.int 0)) = true := by
        rw [decide_eq_false fun y => z (by have := V.int.inj y; omega)]
        rfl
      rw [ez]
      obtain ⟨par, ch, pq, lt, hq, ep, et⟩ := o2 z
      have ht := s1 _ _ et
      refine ⟨fun σ' H' => ∃ m', m' < num ∧ (Same H H' ∧ ∃ (cs : List Nat) (pp : List Nat × Nat) (y3 : Option V), qs[m']? = some pp ∧ p.1 = pp.1 ++ cs.reverse ∧ H' l = some (.lst ((cs.map sg).map V.str)) ∧ m' + cs.length ≤ 1000000 ∧ σ' = [some (.int (m' : Int)), some (.ref o), some (.ref l), y3]), fun σ' H' h => h, ?_⟩
      refine ⟨.ref o, rfl, .int (num : Int), rfl, o, _, (num : Int), .ref a, rfl, rfl, .inl (.inl (s1 _ _ ho)), atI_nat (by rw [List.getElem?_map, ha]; rfl), a, [.int (par : Int), .str (sg ch)], rfl, .inl (.inl ht), rfl, .int (par : Int), _, rfl, .str (sg ch), [], rfl, rfl, ?_⟩
      refine ⟨.ref l, rfl, .inl ⟨rfl, _, .inl (.inl el)⟩, .str (sg ch), rfl, l, _, _, rfl, rfl, el, ?_, par, lt, fun b ob eb => ?_, cs ++ [ch], pq, _, hq, ?_, ?_, ?_, rfl⟩
      · rw [List.length_map, List.length_map]
        exact fit5 (by omega)
      · rw [upd_ne (ne_of_none eb nl)]
        exact s1 b ob eb
      · rw [ew, ep, List.reverse_append, List.append_assoc]
        rfl
      · rw [upd_same, List.map_append, List.map_append]
        rfl
      · rw [List.length_append]
        show par + (cs.length + 1) ≤ 1000000
        omega
/-! ### unseen, of one list of one key -/
def sp_unseen1 : Sp := fun vs H Q _ => ∃ (l d x : Addr) (u : Nat) (kvs : List (Key × V)) (ss : List Nat), vs = [.ref l, .ref d] ∧ H l = some (.lst [.ref x]) ∧ H x = some (.lst [.int (u : Int)]) ∧ H d = some (.dK kvs) ∧ SD kvs ss ∧ ss.length ≤ 1000000 ∧
  ∀ H' f kvs', Off d H H' → H f = none → H' f = some (.lst (if u ∈ ss then [] else [.int (u : Int)])) → H' d = some (.dK kvs') → SD kvs' (if u ∈ ss then ss else ss ++ [u]) → Q (.ref f) H'
theorem ok_unseen1 (T : TX K mg) : FnOk P w K mg base CX0 1 T.a_unseen T.fd_unseen ["lists", "seen"] sp_unseen1 := by
  refine T.F_unseen.ok sc_unseen (fun vs H Q E h => ?_) (fun cdv A outer s H vs Q E hr h => ?_)
  · obtain ⟨l, d, x, u, kvs, ss, rfl, _⟩ := h
    rfl
  · obtain ⟨l, d, x, u, kvs, ss, rfl, el, ex, ed, sd, hs, q⟩ := h
    refine ⟨_, (pss_cons (ps_set (i := 2) sc_unseen.nd rfl (Or.inl rfl) (pe_lst pa_nil))
      (pss_cons (ps_for PassesOwn.never rfl (pi_listK K rfl (pv 0)) (pg_name (i := 3) sc_unseen.nd rfl (Or.inl rfl))
        (pss_one (ps_for PassesOwn.never rfl (pi_listK K rfl (pv 3)) (pg_name (i := 4) sc_unseen.nd rfl (Or.inl rfl))
            (pss_one (ps_if (pt_cmp (pc_dnotin (hu_of hr) (pv 4) (pv 1)))
                (pss_cons (ps_dput (hu_of hr) (pv 1) (pv 4) pe_bl rfl)
                  (pss_one (ps_expr (pe_bmK K rfl PySem.F.plainAttrs_list PySem.F.slot_list_append PySem.F.type_list_append mt_append (pv 2) (pa_cons (pv 4) pa_nil)))))
                pss_nil)))))
      (pss_one (ps_ret (pv 2))))), ?_⟩
    have ld : l ≠ d := fun z => by rw [z, ed] at el; cases el
    have xd : x ≠ d := fun z => by rw [z, ed] at ex; cases ex
    refine ⟨by show 0 ≤ sizeLine; decide, fun f nf => ?_⟩
    have df : d ≠ f := ne_of_none ed nf
    have s0 : Same H (upd H f (.lst [])) := same_new nf
    have e0 : (upd H f (.lst [])) f = some (.lst []) := upd_same
    generalize upd H f (.lst []) = H0 at s0 e0
    refine ⟨.ref l, rfl, l, rfl, ⟨_, .inl (.inl (s0 _ _ el))⟩, ?_⟩
    refine for_it (walk_list (K := K) (a := l) (xs := [.ref x])) (fun i σ H' => Off d H H' ∧ (i = 0 → H' f = some (.lst []) ∧ H' d = some (.dK kvs)) ∧ (i = 1 → ∃ kvs', H' f = some (.lst (if u ∈ ss then [] else [.int (u : Int)])) ∧ H' d = some (.dK kvs') ∧ SD kvs' (if u ∈ ss then ss else ss ++ [u])) ∧ ∃ y3 y4, σ = [some (.ref l), some (.ref d), some (.ref f), y3, y4]) ⟨Off.of s0, fun _ => ⟨e0, s0 _ _ ed⟩, (fun z => nomatch z), none, none, rfl⟩ (fun i σ H' _ hP => .inl (.inl (hP.1 _ _ ld el))) (fun i v σ H1 H1' hi hW hY => ?_) (fun σ H1 hW => ?_)
    · obtain ⟨o1, z0, _, y3, y4, rfl⟩ := hW
      obtain ⟨rfl, hx⟩ := hY
      have i0 : i = 0 := by
        have : i < 1 := hi
        omega
      subst i0
      cases hx
      obtain ⟨ef, ed1⟩ := z0 rfl
      refine ⟨.ref x, rfl, x, rfl, ⟨_, .inl (.inl (o1 _ _ xd ex))⟩, ?_⟩
      refine for_it (walk_list (K := K) (a := x) (xs := [.int (u : Int)])) (fun i σ H' => Off d H H' ∧ (i = 0 → H' f = some (.lst []) ∧ H' d = some (.dK kvs)) ∧ (i = 1 → ∃ kvs', H' f = some (.lst (if u ∈ ss then [] else [.int (u : Int)])) ∧ H' d = some (.dK kvs') ∧ SD kvs' (if u ∈ ss then ss else ss ++ [u])) ∧ ∃ y4, σ = [some (.ref l), some (.ref d), some (.ref f), some (.ref x), y4]) ⟨o1, fun _ => ⟨ef, ed1⟩, (fun z => nomatch z), _, rfl⟩ (fun i σ H' _ hP => .inl (.inl (hP.1 _ _ xd ex))) (fun i v σ H2 H2' hi hW hY => ?_) (fun σ H2 hW => ?_)
      · obtain ⟨o2, z2, _, y4, rfl⟩ := hW
        obtain ⟨rfl, hx⟩ := hY
        have i0 : i = 0 := by
          have : i < 1 := hi
          omega
        subst i0
        cases hx
        obtain ⟨ef, ed2⟩ := z2 rfl
        refine ⟨.int (u : Int), rfl, .ref d, rfl, d, _, rfl, DGet.k (k := Sum.inl (u : Int)) ed2, _, rfl, ?_⟩
        rw [sd.2 u]
        by_cases h : u ∈ ss
        · rw [decide_eq_true h]
          exact ⟨o2, (fun z => nomatch z), fun _ => ⟨kvs, by rw [if_pos h]; exact ef, ed2, by rw [if_pos h]; exact sd⟩, _, rfl⟩
        · rw [decide_eq_false h]
          have k1 := sd.1
          refine ⟨.ref d, rfl, .int (u : Int), rfl, d, _, rfl, DPut.k (k := Sum.inl (u : Int)) ed2 (fit5 (by omega)), ?_⟩
          have e3 : (upd H2' d (.dK (putK kvs (Sum.inl (u : Int)) (.bl true)))) f = some (.lst []) := by rw [upd_ne df.symm]; exact ef
          refine ⟨.ref f, rfl, .inl ⟨rfl, _, .inl (.inl e3)⟩, .int (u : Int), rfl, f, _, _, rfl, rfl, e3, by show 0 < sizeLine; decide, fun b ob bd eb => ?_, (fun z => nomatch z), fun _ => ⟨putK kvs (Sum.inl (u : Int)) (.bl true), ?_, ?_, ?_⟩, _, rfl⟩
          · rw [upd_ne (ne_of_none eb nf), upd_ne bd]
            exact o2 _ _ bd eb
          · rw [upd_same, if_neg h]
            rfl
          · rw [upd_ne df, upd_same]
          · rw [if_neg h]
            exact sd.more h
      · obtain ⟨o2, _, z2, y4, rfl⟩ := hW
        exact ⟨o2, (fun z => nomatch z), fun _ => z2 rfl, _, _, rfl⟩
    · obtain ⟨o1, _, z1, y3, y4, rfl⟩ := hW
      obtain ⟨kvs', ef, ed1, sd1⟩ := z1 rfl
      exact ⟨.ref f, rfl, q _ f kvs' o1 nf ef ed1 sd1⟩
end
end LH

namespace LH
open PySem PySem.Spec PyProof.Rows L2 NdefX LamX
/-- lists of one number each -/
def OnesAt (H : Hp) (bs : List Addr) (row : List Nat) : Prop := bs.length = row.length ∧ ∀ (i : Nat) (b : Addr) (u : Nat), bs[i]? = some b → row[i]? = some u → H b = some (.lst [.int (u : Int)])
/-- groups of one state each -/
def GrAt (H : Hp) (gs : List Addr) (R : List (List Nat × Nat)) : Prop := gs.length = R.length ∧ ∀ (i : Nat) (b : Addr) (p : List Nat × Nat), gs[i]? = some b → R[i]? = some p → H b = some (.lst [.int (p.2 : Int)])
theorem GrAt.on {H H' : Hp} {gs : List Addr} {R : List (List Nat × Nat)} (h : GrAt H gs R) (t : ∀ (b : Addr) (u : Nat), H b = some (.lst [.int (u : Int)]) → H' b = some (.lst [.int (u : Int)])) : GrAt H' gs R := ⟨h.1, fun i b p x y => t b _ (h.2 i b p x y)⟩
theorem OnesAt.on {H H' : Hp} {gs : List Addr} {row : List Nat} (h : OnesAt H gs row) (t : ∀ (b : Addr) (u : Nat), H b = some (.lst [.int (u : Int)]) → H' b = some (.lst [.int (u : Int)])) : OnesAt H' gs row := ⟨h.1, fun i b p x y => t b _ (h.2 i b p x y)⟩
theorem OrgAt.on {H H' : Hp} {os : List Addr} {R : List (List Nat × Nat)} (h : OrgAt H os R) (t : Tups H H') : OrgAt H' os R := ⟨h.1, fun i a p x y => by
  obtain ⟨h1, h2⟩ := h.2 i a p x y
  refine ⟨h1, fun z => ?_⟩
  obtain ⟨par, ch, pp, e1, e2, e3, e4⟩ := h2 z
  exact ⟨par, ch, pp, e1, e2, e3, t _ _ e4⟩⟩
theorem vr_ne {gs : List Addr} {u : Int} (h : vr gs = [.int u]) : False := by
  cases gs with
  | nil => cases h
  | cons g r => cases h
def LR (H H' : Hp) (d ga oa : Addr) (R : List (List Nat × Nat)) : Prop :=
  Same H H' ∧ ∃ (gs os : List Addr) (kvs : List (Key × V)), H' ga = some (.lst (vr gs)) ∧ GrAt H' gs R ∧ H' oa = some (.lst (vr os)) ∧ OrgAt H' os R ∧ H' d = some (.dK kvs) ∧ SD kvs (R.map fun x : List Nat × Nat => x.2)
theorem LR.same {H H' H'' : Hp} {d ga oa : Addr} {R : List (List Nat × Nat)} (h : LR H H' d ga oa R) (s : Same H' H'') : LR H H'' d ga oa R := by
  obtain ⟨h1, gs, os, kvs, h2, h3, h4, h5, h6, h7⟩ := h
  exact ⟨h1.trans s, gs, os, kvs, s _ _ h2, h3.on fun b _ e => s _ _ e, s _ _ h4, h5.on (Tups.same s), s _ _ h6, h7⟩
theorem GrAt.snoc {H : Hp} {gs : List Addr} {R : List (List Nat × Nat)} {f : Addr} {p : List Nat × Nat} (h : GrAt H gs R) (e : H f = some (.lst [.int (p.2 : Int)])) : GrAt H (gs ++ [f]) (R ++ [p]) := by
  refine ⟨by rw [List.length_append, List.length_append, h.1]; rfl, fun i b q x y => ?_⟩
  by_cases hi : i < gs.length
  · rw [List.getElem?_append_left hi] at x
    rw [List.getElem?_append_left (by rw [← h.1]; exact hi)] at y
    exact h.2 i b q x y
  · rw [List.getElem?_append_right (by omega)] at x
    rw [List.getElem?_append_right (by rw [← h.1]; omega), ← h.1] at y
    have i0 : i - gs.length = 0 := by
      have := (List.getElem?_eq_some_iff.mp x).1
      simp only [List.length_singleton] at this
      omega
    rw [i0] at x y
    cases x
    cases y
    exact e
theorem OrgAt.snoc {H : Hp} {os : List Addr} {R : List (List Nat × Nat)} {a : Addr} {p q : List Nat × Nat} {i ch : Nat} (h : OrgAt H os R) (hi : R[i]? = some p) (eq : q.1 = p.1 ++ [ch]) (e : H a = some (.tup [.int (i : Int), .str (sg ch)])) : OrgAt H (os ++ [a]) (R ++ [q]) := by
  have il := (List.getElem?_eq_some_iff.mp hi).1
  refine ⟨by rw [List.length_append, List.length_append, h.1]; rfl, fun j b r x y => ?_⟩
  by_cases hj : j < os.length
  · rw [List.getElem?_append_left hj] at x
    rw [List.getElem?_append_left (by rw [← h.1]; exact hj)] at y
    obtain ⟨h1, h2⟩ := h.2 j b r x y
    refine ⟨h1, fun z => ?_⟩
    obtain ⟨par, c, pp, e1, e2, e3, e4⟩ := h2 z
    exact ⟨par, c, pp, e1, by rw [List.getElem?_append_left (List.getElem?_eq_some_iff.mp e2).1]; exact e2, e3, e4⟩
  · rw [List.getElem?_append_right (by omega)] at x
    rw [List.getElem?_append_right (by rw [← h.1]; omega), ← h.1] at y
    have j0 : j - os.length = 0 := by
      have := (List.getElem?_eq_some_iff.mp x).1
      simp only [List.length_singleton] at this
      omega
    rw [j0] at x y
    cases x
    cases y
    have ol := h.1
    refine ⟨fun z => ?_, fun _ => ⟨i, ch, p, by omega, by rw [List.getElem?_append_left il]; exact hi, eq, e⟩⟩
    omega
section
variable {P : Program} {w : World} {K : PySem.W.Frag} {mg : Str → Option Value} {base : Heap}
def sp_least_read (P : Program) (w : World) (K : PySem.W.Frag) (mg : Str → Option Value) (base : Heap) : Sp := fun vs H Q _ => ∃ (l0 f g : Addr) (F G : NF) (spf spg : Sp) (M : Mach), vs = [.str M.z, .ref l0, .ref f, .ref g] ∧ H l0 = some (.lst [.int 0]) ∧ M.Ok ∧ M.rows.length ≤ 900000 ∧ H f = some (FnO f F) ∧ Callable P w K mg base 4 f spf ∧ H g = some (FnO g G) ∧ Callable P w K mg base 4 g spg ∧
  (∀ (s : Nat) (H' : Hp) (Q' : VK), s < M.rows.length → Same H H' → (∀ H'' p bs, Same H' H'' → H' p = none → H'' p = some (.lst (vr bs)) → OnesAt H'' bs (rowOf M s) → Q' (.ref p) H'') → spf [.int (s : Int)] H' Q' E0) ∧
  (∀ (s : Nat) (H' : Hp) (Q' : VK), s < M.rows.length → Same H H' → (∀ H'', Same H' H'' → Q' (.bl (hope M 0 s)) H'') → spg [.int (s : Int)] H' Q' E0) ∧
  ∀ H', Same H H' → Q (vO (leastM M)) H'
theorem ok_least_read (T : TX K mg) : FnOk P w K mg base CX0 5 T.a_least_read T.fd_least_read ["letters", "starts", "moves", "is_end"] (sp_least_read P w K mg base) := by
  refine T.F_least_read.ok sc_least_read (fun vs H Q E h => ?_) (fun cdv A outer s H vs Q E hr h => ?_)
  · obtain ⟨l0, f, g, F, G, spf, spg, M, rfl, _⟩ := h
    rfl
  · obtain ⟨l0, f, g, F, G, spf, spg, M, rfl, hl0, k, hb, hf, cf, hg, cg, hmv, hen, q⟩ := h
    have G_unseen := ok_unseen1 (P := P) (w := w) (base := base) T
    have G_word_to := ok_word_to (P := P) (w := w) (base := base) T
    refine ⟨_, (pss_cons (ps_setDc (i := 4) (own := [("key", 13)]) (g := gName 13) (tt := tYes) (by rfl) sc_least_read.nd rfl rfl (sw_trueD rfl rfl rfl (by decide +kernel)) (pi_listK K rfl (pv 1)) (blkOk_by (own := [("key", 13)]) (N := N_least_read) (by kernel_rfl)) (fun _ _ _ _ _ => (pg_name (i := 13) sc_least_read.nd rfl (Or.inl rfl))) (fun _ _ _ _ _ => pts_nil) (fun _ _ _ _ _ => (pv 13)) (fun _ _ _ _ _ => pe_bl))
      (pss_cons (ps_set (i := 5) sc_least_read.nd rfl (Or.inl rfl) (pe_lst (pa_cons (pe_callTy (call_listK K rfl) (by rfl) T.m_list (by decide +kernel) (pa_cons (pv 1) pa_nil)) pa_nil)))
      (pss_cons (ps_set (i := 6) sc_least_read.nd rfl (Or.inl rfl) (pe_lst (pa_cons (pe_tup (pa_cons pe_int (pa_cons pe_str pa_nil))) pa_nil)))
      (pss_cons (ps_set (i := 7) sc_least_read.nd rfl (Or.inl rfl) pe_int)
      (pss_cons (ps_while PassesOwn.never (pt_cmpR op_lt (pv 7) (pe_callB (call_lenK K rfl) (by rfl) T.m_len (by decide +kernel) (pa_cons (pv 5) pa_nil)) (nomark _))
        (pss_cons (ps_set (i := 8) sc_least_read.nd rfl (Or.inl rfl) (pe_ix (ix_listK K rfl) (pv 5) (pv 7) (fun _ _ => rfl)))
          (pss_cons (ps_if (pt_val (pe_callB (cr_anyK K rfl rfl) (by rfl) T.m_any (by decide +kernel) (pa_cons (pe_lc (own := [("key", 13)]) (g := gName 13) (tt := tYes) (by rfl) sc_least_read.nd (pi_listK K rfl (pv 8)) (blkOk_by (own := [("key", 13)]) (N := N_least_read) (by kernel_rfl)) (fun _ _ _ _ _ => (pg_name (i := 13) sc_least_read.nd rfl (by first | exact Or.inl rfl | exact Or.inr rfl))) (fun _ _ _ _ _ => pts_nil) (fun _ _ _ _ _ => (pe_callV (k := 4) (i := 3) P w K mg base rfl rfl rfl rfl rfl (hr.mono (by decide)) rfl (by first | exact Or.inl rfl | exact Or.inr (Or.inl rfl) | exact Or.inr (Or.inr rfl)) (pa_cons (pv 13) pa_nil)))) pa_nil)))
            (pss_one (ps_ret (pe_call G_word_to (hr.mono (by decide)) (by rfl) T.g_word_to T.F_word_to.kp T.b_word_to .nil pass0 (pa_cons (pv 7) (pa_cons (pv 6) pa_nil)))))
            pss_nil)
          (pss_cons (ps_setLc (i := 9) (own := [("key", 13)]) (g := gName 13) (tt := tYes) (by rfl) sc_least_read.nd rfl rfl (sw_true rfl rfl rfl (by decide +kernel)) (pi_listK K rfl (pv 8)) (blkOk_by (own := [("key", 13)]) (N := N_least_read) (by kernel_rfl)) (fun _ _ _ _ _ => (pg_name (i := 13) sc_least_read.nd rfl (by first | exact Or.inl rfl | exact Or.inr rfl))) (fun _ _ _ _ _ => pts_nil) (fun _ _ _ _ _ => (pe_callV (k := 4) (i := 2) P w K mg base rfl rfl rfl rfl rfl (hr.mono (by decide)) rfl (by first | exact Or.inl rfl | exact Or.inr (Or.inl rfl) | exact Or.inr (Or.inr rfl)) (pa_cons (pv 13) pa_nil))))
          (pss_cons (ps_for PassesOwn.never rfl (pi_enumS (by rfl) T.m_enumerate (pa_cons (pv 0) pa_nil)) (pg_tupK (n := 2) K rfl (by rfl) (pgs_cons (pg_name (i := 10) sc_least_read.nd rfl (Or.inr rfl)) (pgs_cons (pg_name (i := 11) sc_least_read.nd rfl (Or.inl rfl)) pgs_nil)))
            (pss_cons (ps_set (i := 12) sc_least_read.nd rfl (Or.inl rfl) (pe_call G_unseen (hr.mono (by decide)) (by rfl) T.g_unseen T.F_unseen.kp T.b_unseen .nil pass0 (pa_cons (pe_lc (own := [("row", 14)]) (g := gName 14) (tt := tYes) (by rfl) sc_least_read.nd (pi_listK K rfl (pv 9)) (blkOk_by (own := [("row", 14)]) (N := N_least_read) (by kernel_rfl)) (fun _ _ _ _ _ => (pg_name (i := 14) sc_least_read.nd rfl (by first | exact Or.inl rfl | exact Or.inr rfl))) (fun _ _ _ _ _ => pts_nil) (fun _ _ _ _ _ => (pe_ix (ix_listK K rfl) (pv 14) (pv 10) (fun _ _ => rfl)))) (pa_cons (pv 4) pa_nil))))
              (pss_one (ps_if (pt_cmpR op_gt (pe_callB (call_lenK K rfl) (by rfl) T.m_len (by decide +kernel) (pa_cons (pv 12) pa_nil)) pe_int (nomark _))
                (pss_cons (ps_expr (pe_bmK K rfl PySem.F.plainAttrs_list PySem.F.slot_list_append PySem.F.type_list_append mt_append (pv 5) (pa_cons (pv 12) pa_nil)))
                  (pss_one (ps_expr (pe_bmK K rfl PySem.F.plainAttrs_list PySem.F.slot_list_append PySem.F.type_list_append mt_append (pv 6) (pa_cons (pe_tup (pa_cons (pv 7) (pa_cons (pv 11) pa_nil))) pa_nil)))))
                pss_nil))))
          (pss_one (ps_aug (i := 7) sc_least_read.nd rfl (Or.inl rfl) pe_int ip_add)))))))
      (pss_one (ps_ret pe_non))))))), ?_⟩
    have m0 := k.many
    refine ⟨.ref l0, rfl, l0, rfl, ⟨_, .inl (.inl hl0)⟩, fun d nd => ?_⟩
    refine dc_it (walk_list (K := K) (a := l0) (xs := [.int 0])) (fun i H' => H' = upd H d (.dK (if i = 0 then [] else [(Sum.inl (0 : Int), .bl true)]))) rfl (fun i H' _ hW => ?_) (fun i x H1 H1' hi hW hY => ?_) (fun H1 hW => ?_)
    · rw [hW]
      exact .inl (.inl (same_new nd _ _ hl0))
    · obtain ⟨rfl, hx⟩ := hY
      subst hW
      have i0 : i = 0 := by
        have : i < 1 := hi
        omega
      subst i0
      cases hx
      refine ⟨rfl, lcyes ?_⟩
      refine ⟨.int 0, rfl, [], Sum.inl (0 : Int), rfl, upd_same, by show 0 < sizeLine; decide, ?_⟩
      rw [upd_upd]
      rfl
    have ed1 : H1 d = some (.dK [(Sum.inl (0 : Int), .bl true)]) := by rw [hW]; exact upd_same
    have s1 : Same H H1 := by rw [hW]; exact same_new nd
    clear hW
    refine ⟨.ref l0, rfl, l0, _, rfl, .inl (.inl (.inl (s1 _ _ hl0))), fun g0 ng0 => ⟨by show 1 ≤ sizeLine; decide, fun ga nga => ?_⟩⟩
    have s2 : Same H1 (upd (upd H1 g0 (.lst [.int 0])) ga (.lst [.ref g0])) := (same_new ng0).trans (same_new nga)
    have eg0 : (upd (upd H1 g0 (.lst [.int 0])) ga (.lst [.ref g0])) g0 = some (.lst [.int 0]) := (same_new nga) _ _ upd_same
    have ega : (upd (upd H1 g0 (.lst [.int 0])) ga (.lst [.ref g0])) ga = some (.lst (vr [g0])) := upd_same
    have fga : H ga = none := (s1.trans (same_new ng0)).free nga
    generalize upd (upd H1 g0 (.lst [.int 0])) ga (.lst [.ref g0]) = H2 at s2 eg0 ega
    refine ⟨by show 2 ≤ sizeLine; decide, fun o0 no0 => ⟨by show 1 ≤ sizeLine; decide, fun oa noa => ?_⟩⟩
    have s3 : Same H2 (upd (upd H2 o0 (.tup [.int 0, .str ""])) oa (.lst [.ref o0])) := (same_new no0).trans (same_new noa)
    have eoa : (upd (upd H2 o0 (.tup [.int 0, .str ""])) oa (.lst [.ref o0])) oa = some (.lst (vr [o0])) := upd_same
    have foa : H oa = none := ((s1.trans s2).trans (same_new no0)).free noa
    have fd : H d = none := nd
    have gaoa : ga ≠ oa := ne_of_none ((same_new no0) _ _ ega) noa
    generalize upd (upd H2 o0 (.tup [.int 0, .str ""])) oa (.lst [.ref o0]) = H3 at s3 eoa
    have gr0 : GrAt H3 [g0] (qAt M 0) := ⟨rfl, fun i b p x y => by
      cases i with
      | zero =>
        cases x
        cases y
        exact s3 _ _ eg0
      | succ i => simp at x⟩
    have or0 : OrgAt H3 [o0] (qAt M 0) := ⟨rfl, fun i b p x y => by
      cases i with
      | zero =>
        cases y
        exact ⟨fun _ => rfl, fun z => absurd rfl z⟩
      | succ i => simp at x⟩
    have lr0 : LR H H3 d ga oa (qAt M 0) := ⟨(s1.trans s2).trans s3, [g0], [o0], _, s3 _ _ ega, gr0, eoa, or0, s3 _ _ (s2 _ _ ed1), SD.one⟩
    have dga : d ≠ ga := fun z => by have h5 := s2 _ _ ed1; rw [z, ega] at h5; cases h5
    have doa : d ≠ oa := fun z => by have h5 := s3 _ _ (s2 _ _ ed1); rw [z, eoa] at h5; cases h5
    refine ⟨fun mz σ H' => ∃ (i : Nat) (y8 y9 y10 y11 y12 : Option V), mz + i = M.rows.length + 1 ∧ LR H H' d ga oa (qAt M i) ∧ i ≤ (qAt M i).length ∧ (∀ q ∈ (qAt M i).take i, isE M q = false) ∧ σ = [some (.str M.z), some (.ref l0), some (.ref f), some (.ref g), some (.ref d), some (.ref ga), some (.ref oa), some (.int (i : Int)), y8, y9, y10, y11, y12, none, none], ⟨M.rows.length + 1, 0, none, none, none, none, none, rfl, lr0, Nat.zero_le _, (fun q hq => nomatch hq), rfl⟩, fun mz σ H4 hW => ?_⟩
    obtain ⟨i, y8, y9, y10, y11, y12, hmz, lr, il, ne, rfl⟩ := hW
    obtain ⟨s4, gs, os, kvs, ega4, gr, eoa4, org, ed4, sd⟩ := id lr
    have qN := qAt_len k i
    refine ⟨.int (i : Int), rfl, .ref ga, rfl, ga, _, rfl, .inl (.inl (.inl ega4)), (i : Int), _, rfl, rfl, _, rfl, ?_⟩
    rw [List.length_map, gr.1]
    by_cases hi : i < (qAt M i).length
    · rw [show decide ((i : Int) < (((qAt M i).length : Nat) : Int)) = true from decide_eq_true (by omega)]
      obtain ⟨p, hp⟩ : ∃ p, (qAt M i)[i]? = some p := ⟨_, List.getElem?_eq_getElem hi⟩
      obtain ⟨gb, hgb⟩ : ∃ b, gs[i]? = some b := ⟨_, List.getElem?_eq_getElem (by rw [gr.1]; exact hi)⟩
      have egb := gr.2 i gb p hgb hp
      obtain ⟨pn, pl⟩ := (qAt_ok k i).2 p (List.mem_of_getElem? hp)
      refine ⟨fun σ' H' => ∃ m', m' < mz ∧ ∃ (i : Nat) (y8 y9 y10 y11 y12 : Option V), m' + i = M.rows.length + 1 ∧ LR H H' d ga oa (qAt M i) ∧ i ≤ (qAt M i).length ∧ (∀ q ∈ (qAt M i).take i, isE M q = false) ∧ σ' = [some (.str M.z), some (.ref l0), some (.ref f), some (.ref g), some (.ref d), some (.ref ga), some (.ref oa), some (.int (i : Int)), y8, y9, y10, y11, y12, none, none], fun σ' H' h => h, ?_⟩
      refine ⟨.ref ga, rfl, .int (i : Int), rfl, ga, _, (i : Int), .ref gb, rfl, rfl, .inl (.inl ega4), atI_nat (by rw [List.getElem?_map, hgb]; rfl), ?_⟩
      refine ⟨.ref gb, rfl, gb, rfl, ⟨_, .inl (.inl egb)⟩, fun D nD => ?_⟩
      refine lc_it (walk_list (K := K) (a := gb) (xs := [.int (p.2 : Int)])) (fun j H' => Same H4 H' ∧ (j = 0 → H' D = some (.lst [])) ∧ (j = 1 → H' D = some (.lst [.bl (hope M 0 p.2)]))) ⟨same_new nD, fun _ => upd_same, (fun z => nomatch z)⟩ (fun j H' _ hP => .inl (.inl (hP.1 _ _ egb))) (fun j x H5 H5' hj hW hY => ?_) (fun H5 hW => ?_)
      · obtain ⟨s5, z5, _⟩ := hW
        obtain ⟨rfl, hx⟩ := hY
        have j0 : j = 0 := by
          have : j < 1 := hj
          omega
        subst j0
        cases hx
        refine ⟨rfl, lcyes ?_⟩
        refine ⟨g, G, spg, rfl, (s4.trans s5) _ _ hg, cg, .int (p.2 : Int), rfl, (s4.trans s5) _ _ hg, hen p.2 _ _ pn (s4.trans s5) fun H6 s6 => ?_⟩
        refine ⟨_, s6 _ _ (z5 rfl), by show 0 < sizeLine; decide, fun b o eb => ?_, (fun z => nomatch z), fun _ => upd_same⟩
        rw [upd_ne (ne_of_none eb nD)]
        exact s6 _ _ (s5 b o eb)
      obtain ⟨s5, _, z5⟩ := hW
      refine ⟨D, [hope M 0 p.2], rfl, .inl (.inl (z5 rfl)), _, rfl, ?_⟩
      rw [show ([hope M 0 p.2].any id) = isE M p by show (hope M 0 p.2 || false) = _; rw [Bool.or_false]; rfl]
      by_cases h : isE M p = true
      · rw [h]
        obtain ⟨s5', gs5, os5, kvs5, _, _, eoa5, org5, _, _⟩ := lr.same s5
        refine ⟨.int (i : Int), rfl, .ref oa, rfl, i, oa, os5, qAt M i, p, rfl, eoa5, org5, hp, by omega, fun H6 s6 => ?_⟩
        have := q H6 (s5'.trans s6)
        rw [least_some k hp h ne] at this
        exact this
      have h' : isE M p = false := by simpa using h
      rw [h']
      have lr5 := lr.same s5
      have egb5 := s5 _ _ egb
      clear z5
      obtain ⟨row, er, eg, rl5, rt⟩ := k.row_at pn
      refine ⟨.ref gb, rfl, gb, rfl, ⟨_, .inl (.inl egb5)⟩, fun D2 nD2 => ?_⟩
      have D2ga : D2 ≠ ga := (ne_of_none (s5 _ _ ega4) nD2).symm
      have D2oa : D2 ≠ oa := (ne_of_none (s5 _ _ eoa4) nD2).symm
      have D2d : D2 ≠ d := (ne_of_none (s5 _ _ ed4) nD2).symm
      refine lc_it (walk_list (K := K) (a := gb) (xs := [.int (p.2 : Int)])) (fun j H' => Same H5 H' ∧ (j = 0 → H' D2 = some (.lst [])) ∧ (j = 1 → ∃ p1 bs, H5 p1 = none ∧ H' D2 = some (.lst [.ref p1]) ∧ H' p1 = some (.lst (vr bs)) ∧ OnesAt H' bs row)) ⟨same_new nD2, fun _ => upd_same, (fun z => nomatch z)⟩ (fun j H' _ hP => .inl (.inl (hP.1 _ _ egb5))) (fun j x H6 H6' hj hW hY => ?_) (fun H6 hW => ?_)
      · obtain ⟨s6, z6, _⟩ := hW
        obtain ⟨rfl, hx⟩ := hY
        have j0 : j = 0 := by
          have : j < 1 := hj
          omega
        subst j0
        cases hx
        have s46 := lr5.1.trans s6
        refine ⟨rfl, lcyes ?_⟩
        refine ⟨f, F, spf, rfl, s46 _ _ hf, cf, .int (p.2 : Int), rfl, s46 _ _ hf, hmv p.2 _ _ pn s46 fun H7 p1 bs s7 n7 e7 o7 => ?_⟩
        have eD7 := s7 _ _ (z6 rfl)
        have pD : p1 ≠ D2 := fun z => by rw [z, z6 rfl] at n7; cases n7
        refine ⟨_, eD7, by show 0 < sizeLine; decide, fun b o eb => ?_, (fun z => nomatch z), fun _ => ⟨p1, bs, s6.free n7, upd_same, by rw [upd_ne pD]; exact e7, ?_⟩⟩
        · rw [upd_ne (ne_of_none eb nD2)]
          exact s7 _ _ (s6 b o eb)
        · have er2 : rowOf M p.2 = row := eg
          rw [er2] at o7
          refine o7.on fun b u eb => ?_
          rw [upd_ne fun z => by rw [z, eD7] at eb; cases eb]
          exact eb
      obtain ⟨s6, _, z6⟩ := hW
      obtain ⟨p1, bs, n1, eD6, e1, on6⟩ := z6 rfl
      have lr6 := lr5.same s6
      have p1ga : p1 ≠ ga := (ne_of_none (s5 _ _ ega4) n1).symm
      have p1oa : p1 ≠ oa := (ne_of_none (s5 _ _ eoa4) n1).symm
      have p1d : p1 ≠ d := (ne_of_none (s5 _ _ ed4) n1).symm
      clear z6
      refine ⟨.str M.z, rfl, M.z, rfl, ?_⟩
      refine for_it walk_Itp (fun c σ H' => LR H H' d ga oa (opn (qAt M i) ((ext M p).take c)) ∧ H' D2 = some (.lst [.ref p1]) ∧ H' p1 = some (.lst (vr bs)) ∧ OnesAt H' bs row ∧ ∃ y10 y11 y12, σ = [some (.str M.z), some (.ref l0), some (.ref f), some (.ref g), some (.ref d), some (.ref ga), some (.ref oa), some (.int (i : Int)), some (.ref gb), some (.ref D2), y10, y11, y12, none, none]) ⟨lr6, eD6, e1, on6, _, _, _, rfl⟩ (fun _ _ _ _ _ => trivial) (fun c x σ H7 H7' hc hW hY => ?_) (fun σ H7 hW => ?_)
      · obtain ⟨lr7, eD7, e7, on7, y10, y11, y12, rfl⟩ := hW
        obtain ⟨Tp, x1, x2, rfl, nT, rfl, hx1, hx2⟩ := hY
        cases hx1
        have hcz : c < M.z.length := hc
        have ec : M.z.cps.toList[c]? = some (M.z.cps.toList[c]'(by rw [Array.length_toList]; exact hc)) := List.getElem?_eq_getElem _
        generalize M.z.cps.toList[c]'(by rw [Array.length_toList]; exact hc) = ch at ec
        have ec2 : M.z.cps[c]? = some ch := by rw [← Array.getElem?_toList]; exact ec
        unfold signAt at hx2
        rw [ec2] at hx2
        cases hx2
        have eu : row[c]? = some (row[c]'(by rw [rl5]; exact hcz)) := List.getElem?_eq_getElem _
        generalize row[c]'(by rw [rl5]; exact hcz) = u at eu
        obtain ⟨b, hbc⟩ : ∃ b, bs[c]? = some b := ⟨_, List.getElem?_eq_getElem (by rw [on7.1, rl5]; exact hcz)⟩
        have sT : Same H7 (upd H7 Tp (.tup [.int ((c : Nat) : Int), .str ⟨#[ch]⟩])) := same_new nT
        refine ⟨Tp, [.int ((c : Nat) : Int), .str ⟨#[ch]⟩], rfl, .inl (.inl upd_same), rfl, .int ((c : Nat) : Int), _, rfl, .str ⟨#[ch]⟩, [], rfl, rfl, ?_⟩
        generalize upd H7 Tp (.tup [.int ((c : Nat) : Int), .str ⟨#[ch]⟩]) = H8 at sT
        have lr8 := lr7.same sT
        have eD8 := sT _ _ eD7
        have e8 := sT _ _ e7
        have on8 := on7.on (H' := H8) fun b u eb => sT _ _ eb
        clear lr7 eD7 e7 on7 nT
        have eb8 := on8.2 c b u hbc eu
        refine ⟨.ref D2, rfl, D2, rfl, ⟨_, .inl (.inl eD8)⟩, fun D3 nD3 => ?_⟩
        refine lc_it (walk_list (K := K) (a := D2) (xs := [.ref p1])) (fun j H' => Same H8 H' ∧ (j = 0 → H' D3 = some (.lst [])) ∧ (j = 1 → H' D3 = some (.lst [.ref b]))) ⟨same_new nD3, fun _ => upd_same, (fun z => nomatch z)⟩ (fun j H' _ hP => .inl (.inl (hP.1 _ _ eD8))) (fun j x H9 H9' hj hW hY => ?_) (fun H9 hW => ?_)
        · obtain ⟨s9, z9, _⟩ := hW
          obtain ⟨rfl, hx⟩ := hY
          have j0 : j = 0 := by
            have : j < 1 := hj
            omega
          subst j0
          cases hx
          refine ⟨rfl, lcyes ?_⟩
          refine ⟨.ref p1, rfl, .int ((c : Nat) : Int), rfl, p1, _, ((c : Nat) : Int), .ref b, rfl, rfl, .inl (.inl (s9 _ _ e8)), atI_nat (by rw [List.getElem?_map, hbc]; rfl), _, z9 rfl, by show 0 < sizeLine; decide, fun b o eb => ?_, (fun z => nomatch z), fun _ => upd_same⟩
          rw [upd_ne (ne_of_none eb nD3)]
          exact s9 b o eb
        obtain ⟨s9, _, z9⟩ := hW
        have eD39 := z9 rfl
        have lr9 := lr8.same s9
        have eD9 := s9 _ _ eD8
        have e9 := s9 _ _ e8
        have on9 := on8.on (H' := H9) fun b u eb => s9 _ _ eb
        have eb9 := s9 _ _ eb8
        clear z9 lr8 eD8 e8 on8 eb8
        have et : opn (qAt M i) ((ext M p).take (c + 1)) = if u ∈ (opn (qAt M i) ((ext M p).take c)).map (fun x : List Nat × Nat => x.2) then opn (qAt M i) ((ext M p).take c) else opn (qAt M i) ((ext M p).take c) ++ [(p.1 ++ [ch], u)] := by
          rw [take_snoc (ext_at k pn eg ec eu), opn_snoc]
        have nR : (opn (qAt M i) ((ext M p).take c)).length ≤ 1000000 := by
          have h9 := opn_le (qAt M i) ((ext M p).take c)
          rw [List.length_take, ext_len k pn] at h9
          have := k.let_.five
          omega
        have pR : (opn (qAt M i) ((ext M p).take c))[i]? = some p := by
          obtain ⟨r9, h9, _⟩ := opn_pre (qAt M i) ((ext M p).take c)
          rw [h9, List.getElem?_append_left hi]
          exact hp
        rw [et]
        generalize opn (qAt M i) ((ext M p).take c) = R at lr9 nR pR
        obtain ⟨s9h, gs9, os9, kv9, ga9, gr9, oa9, or9, d9, sd9⟩ := lr9
        refine ⟨.ref d, rfl, D3, d, b, u, kv9, R.map (fun x : List Nat × Nat => x.2), rfl, eD39, eb9, d9, sd9, by rw [List.length_map]; exact nR, fun H10 fr kv10 o10 n10 e10 d10 sd10 => ?_⟩
        have ga10 := o10 _ _ dga.symm ga9
        have oa10 := o10 _ _ doa.symm oa9
        have D10 := o10 _ _ D2d eD9
        have p10 := o10 _ _ p1d e9
        have ones : ∀ (b : Addr) (u : Nat), H9 b = some (.lst [.int (u : Int)]) → H10 b = some (.lst [.int (u : Int)]) := fun b u eb => o10 _ _ (fun z => by rw [z, d9] at eb; cases eb) eb
        have gr10 := gr9.on ones
        have on10 := on9.on ones
        have tp10 : Tups H9 H10 := fun b xs eb => o10 _ _ (fun z => by rw [z, d9] at eb; cases eb) eb
        have or10 := or9.on tp10
        have sm10 : Same H H10 := fun b o eb => o10 _ _ (ne_of_none eb fd) (s9h _ _ eb)
        refine ⟨.ref fr, rfl, fr, _, rfl, .inl (.inl (.inl e10)), _, _, rfl, rfl, _, rfl, ?_⟩
        by_cases hu : u ∈ R.map (fun x : List Nat × Nat => x.2)
        · rw [if_pos hu] at e10 sd10 ⊢
          rw [if_pos hu]
          exact ⟨⟨sm10, gs9, os9, kv10, ga10, gr10, oa10, or10, d10, sd10⟩, D10, p10, on10, _, _, _, rfl⟩
        · rw [if_neg hu] at e10 sd10 ⊢
          rw [if_neg hu]
          refine ⟨.ref ga, rfl, .inl ⟨rfl, _, .inl (.inl ga10)⟩, .ref fr, rfl, ga, _, _, rfl, rfl, ga10, by rw [List.length_map, gr10.1]; exact fit5 (by omega), ?_⟩
          have oa11 : (upd H10 ga (.lst (vr gs9 ++ [.ref fr]))) oa = some (.lst (vr os9)) := by rw [upd_ne gaoa.symm]; exact oa10
          refine ⟨.ref oa, rfl, .inl ⟨rfl, _, .inl (.inl oa11)⟩, .int (i : Int), rfl, .str ⟨#[ch]⟩, rfl, by show 2 ≤ sizeLine; decide, fun p3 n3 => ?_⟩
          have oa12 := (same_new (o := .tup [.int (i : Int), .str ⟨#[ch]⟩]) n3) _ _ oa11
          have t12 : Tups H10 (upd (upd (upd H10 ga (.lst (vr gs9 ++ [.ref fr]))) p3 (.tup [.int (i : Int), .str ⟨#[ch]⟩])) oa (.lst (vr os9 ++ [.ref p3]))) := ((Tups.lst ga10).trans (Tups.new n3)).trans (Tups.lst oa12)
          have keep : ∀ (b : Addr) (o : HO), b ≠ ga → b ≠ oa → H10 b = some o → (upd (upd (upd H10 ga (.lst (vr gs9 ++ [.ref fr]))) p3 (.tup [.int (i : Int), .str ⟨#[ch]⟩])) oa (.lst (vr os9 ++ [.ref p3]))) b = some o := fun b o b1 b2 eb => by
            rw [upd_ne b2]
            exact (same_new n3) _ _ ((upd_ne b1).trans eb)
          have ones12 : ∀ (b : Addr) (u : Nat), H10 b = some (.lst [.int (u : Int)]) → (upd (upd (upd H10 ga (.lst (vr gs9 ++ [.ref fr]))) p3 (.tup [.int (i : Int), .str ⟨#[ch]⟩])) oa (.lst (vr os9 ++ [.ref p3]))) b = some (.lst [.int (u : Int)]) := fun b u eb => keep b _ (fun z => by rw [z, ga10] at eb; exact vr_ne (HO.lst.inj (Option.some.inj eb))) (fun z => by rw [z, oa10] at eb; exact vr_ne (HO.lst.inj (Option.some.inj eb))) eb
          have p3g : p3 ≠ ga := fun z => by rw [z, upd_same] at n3; cases n3
          have p3o : p3 ≠ oa := (ne_of_none oa11 n3).symm
          have ga12 : (upd (upd (upd H10 ga (.lst (vr gs9 ++ [.ref fr]))) p3 (.tup [.int (i : Int), .str ⟨#[ch]⟩])) oa (.lst (vr os9 ++ [.ref p3]))) ga = some (.lst (vr (gs9 ++ [fr]))) := by rw [upd_ne gaoa, upd_ne p3g.symm, upd_same, vr_snoc]
          refine ⟨oa, _, _, rfl, rfl, oa12, by rw [List.length_map, or10.1]; exact fit5 (by omega), ⟨fun b o eb => keep b o (ne_of_none eb fga) (ne_of_none eb foa) (sm10 b o eb), gs9 ++ [fr], os9 ++ [p3], kv10, ga12, (gr10.on ones12).snoc (ones12 _ _ e10), by rw [upd_same, vr_snoc], (or10.on t12).snoc pR rfl (by rw [upd_ne p3o, upd_same]), keep _ _ dga doa d10, by rw [List.map_append]; exact sd10⟩, keep _ _ D2ga D2oa D10, keep _ _ p1ga p1oa p10, on10.on ones12, _, _, _, rfl⟩
      · obtain ⟨lr7, eD7, e7, on7, y10, y11, y12, rfl⟩ := hW
        rw [List.take_of_length_le (l := ext M p) (by rw [ext_len k pn]; exact Nat.le_refl _), ← qAt_go hp] at lr7
        obtain ⟨r7, hr7⟩ := qAt_pre M i 1
        refine ⟨.int (i : Int), rfl, (i : Int), 1, rfl, rfl, mz - 1, by omega, i + 1, _, _, _, _, _, by omega, lr7, ?_, fun q hq => ?_, rfl⟩
        · rw [hr7, List.length_append]
          have := qAt_pre M i 1
          omega
        · rw [hr7, List.take_append_of_le_length (by omega), take_snoc hp] at hq
          rcases List.mem_append.mp hq with h5 | h5
          · exact ne q h5
          · rw [List.mem_singleton.mp h5]
            exact h'
    · rw [show decide ((i : Int) < (((qAt M i).length : Nat) : Int)) = false from decide_eq_false (by omega)]
      have h5 : (qAt M i).length ≤ i := by omega
      have := q H4 s4
      rw [least_none k h5 fun q hq => ne q (by rw [List.take_of_length_le h5]; exact hq)] at this
      exact this
end
end LH

namespace LH
open PySem PySem.Spec PyProof.Rows L2 NdefX LamX
/-! ### the functions that least_word makes -/
abbrev st_moves : Stmt := (defBody s_least_word).getD 2 (.Pass ⟨0, 0, 0, 0⟩)
abbrev st_is_end3 : Stmt := (defBody s_least_word).getD 3 (.Pass ⟨0, 0, 0, 0⟩)
abbrev q_moves : Str := (("least_word" : Str) ++ ".<locals>.") ++ "moves"
abbrev q_is_end3 : Str := (("least_word" : Str) ++ ".<locals>.") ++ "is_end"
abbrev nf_moves (cl : List (Str × Addr)) (c : Addr) : NF := NF.of st_moves "moves" q_moves cl c
abbrev nf_is_end3 (cl : List (Str × Addr)) (c : Addr) : NF := NF.of st_is_end3 "is_end" q_is_end3 cl c
abbrev N_moves : List Str := ["state", "table", "target"]
theorem nd_moves : N_moves.Nodup := by decide +kernel
section
variable {P : Program} {w : World} {K : PySem.W.Frag} {mg : Str → Option Value} {base : Heap}
def sp_moves : List (Option V) → Sp := fun ws vs H Q _ => ∃ (t a : Addr) (as : List Addr) (row : List Nat) (s : Nat), ws = [some (.ref t)] ∧ vs = [.int (s : Int)] ∧ H t = some (.tup (vr as)) ∧ as[s]? = some a ∧ H a = some (.tup (vi row)) ∧ row.length ≤ 5 ∧ ∀ H' p bs, Same H H' → H p = none → H' p = some (.lst (vr bs)) → OnesAt H' bs row → Q (.ref p) H'
theorem OnesAt.snoc {H : Hp} {gs : List Addr} {row : List Nat} {f : Addr} {u : Nat} (h : OnesAt H gs row) (e : H f = some (.lst [.int (u : Int)])) : OnesAt H (gs ++ [f]) (row ++ [u]) := by
  refine ⟨by rw [List.length_append, List.length_append, h.1]; rfl, fun i b q x y => ?_⟩
  by_cases hi : i < gs.length
  · rw [List.getElem?_append_left hi] at x
    rw [List.getElem?_append_left (by rw [← h.1]; exact hi)] at y
    exact h.2 i b q x y
  · rw [List.getElem?_append_right (by omega)] at x
    rw [List.getElem?_append_right (by rw [← h.1]; omega), ← h.1] at y
    have i0 : i - gs.length = 0 := by
      have := (List.getElem?_eq_some_iff.mp x).1
      simp only [List.length_singleton] at this
      omega
    rw [i0] at x y
    cases x
    cases y
    exact e
theorem ok_moves {f c : Addr} {cl : List (Str × Addr)} : NOk P w K mg base CX0 1 f (nf_moves cl c) ["state"] ["table"] sp_moves := by
  refine nok_of (N := N_moves) (nscope_by (by kernel_rfl)) (fun doc pm ctv us hl => match us, hl with | [_], _ => rfl) (fun ws vs H Q E h => ?_) (fun A outer s H vs ws Q E hr hf hc hl h => ?_)
  · obtain ⟨t, a, as, row, s, rfl, rfl, _⟩ := h
    rfl
  · obtain ⟨t, a, as, row, s, rfl, rfl, ht, ha, hr2, hl5, q⟩ := h
    refine ⟨_, PSs.nox (pss_one (ps_ret (pe_lc (own := [("target", 2)]) (g := gName 2) (tt := tYes) (by rfl) nd_moves (pi_tupK K rfl (pe_ix (ix_tupK K rfl) (pv 1) (pv 0) (fun _ _ => rfl))) (blkOk_by (own := [("target", 2)]) (N := N_moves) (by kernel_rfl)) (fun _ _ _ _ _ => (pg_name (i := 2) nd_moves rfl (Or.inl rfl))) (fun _ _ _ _ _ => pts_nil) (fun _ _ _ _ _ => (pe_lst (pa_cons (pv 2) pa_nil)))))), ?_⟩
    refine ⟨.ref t, rfl, .int (s : Int), rfl, t, _, (s : Int), .ref a, rfl, rfl, .inl (.inl ht), atI_nat (by rw [List.getElem?_map, ha]; rfl), a, rfl, ⟨_, .inl (.inl hr2)⟩, fun D nD => ?_⟩
    refine lc_it (walk_tup (K := K) (a := a) (xs := vi row)) (fun j H' => Same H H' ∧ ∃ bs, H' D = some (.lst (vr bs)) ∧ OnesAt H' bs (row.take j)) ⟨same_new nD, [], upd_same, rfl, fun i b u x => by simp at x⟩ (fun j H' _ hP => .inl (.inl (hP.1 _ _ hr2))) (fun j x H1 H1' hj hW hY => ?_) (fun H1 hW => ?_)
    · obtain ⟨s1, bs, d1, o1⟩ := hW
      obtain ⟨rfl, hx⟩ := hY
      obtain ⟨u, hu, rfl⟩ := int_at hx
      refine ⟨rfl, lcyes ?_⟩
      refine ⟨.int (u : Int), rfl, by show 1 ≤ sizeLine; decide, fun b nb => ?_⟩
      have d2 := (same_new (o := .lst [.int (u : Int)]) nb) _ _ d1
      have bD : b ≠ D := (ne_of_none d1 nb).symm
      have ones : ∀ (b' : Addr) (u' : Nat), (upd H1' b (.lst [.int (u : Int)])) b' = some (.lst [.int (u' : Int)]) → (upd (upd H1' b (.lst [.int (u : Int)])) D (.lst (vr bs ++ [.ref b]))) b' = some (.lst [.int (u' : Int)]) := fun b' u' eb => by
        rw [upd_ne fun z => by rw [z, d2] at eb; exact vr_ne (HO.lst.inj (Option.some.inj eb))]
        exact eb
      refine ⟨_, d2, by rw [List.length_map, o1.1, List.length_take]; exact fit5 (by omega), fun b' o eb => ?_, bs ++ [b], by rw [upd_same, vr_snoc], ?_⟩
      · rw [upd_ne (ne_of_none eb nD)]
        exact (same_new nb) _ _ (s1 b' o eb)
      · rw [take_snoc hu]
        exact ((o1.on fun b' u' eb => (same_new nb) _ _ eb).on ones).snoc (ones b u upd_same)
    · obtain ⟨s1, bs, d1, o1⟩ := hW
      rw [List.length_map, List.take_of_length_le (Nat.le_refl _)] at o1
      exact q _ D bs s1 nD d1 o1
def sp_is_end3 : List (Option V) → Sp := fun ws vs H Q _ => ∃ (mk : Addr) (bs : List Bool) (b : Bool) (s : Nat), ws = [some (.ref mk)] ∧ vs = [.int (s : Int)] ∧ H mk = some (.lst (bs.map V.bl)) ∧ bs[s]? = some b ∧ Q (.bl b) H
theorem ok_is_end3 {f c : Addr} {cl : List (Str × Addr)} : NOk P w K mg base CX0 1 f (nf_is_end3 cl c) ["state"] ["marks"] sp_is_end3 := by
  refine nok_of (N := ["state", "marks"]) (nscope_by (by kernel_rfl)) (fun doc pm ctv us hl => match us, hl with | [_], _ => rfl) (fun ws vs H Q E h => ?_) (fun A outer s H vs ws Q E hr hf hc hl h => ?_)
  · obtain ⟨mk, bs, b, s, rfl, rfl, _⟩ := h
    rfl
  · obtain ⟨mk, bs, b, s, rfl, rfl, hm, hb, q⟩ := h
    refine ⟨_, PSs.nox (pss_one (ps_ret (pe_ix (ix_listK K rfl) (pv 1) (pv 0) (fun _ _ => rfl)))), ?_⟩
    refine ⟨.ref mk, rfl, .int (s : Int), rfl, mk, _, (s : Int), .bl b, rfl, rfl, .inl (.inl hm), atI_nat ?_, q⟩
    rw [List.getElem?_map, hb]
    rfl
end
theorem free_moves : ∀ y ∈ (C8.fnScope st_moves).names, y.2 = .free → (defScope s_least_word).names.lookup y.1 = some .cell ∨ (defScope s_least_word).names.lookup y.1 = some .free := by decide +kernel
theorem free_is_end3 : ∀ y ∈ (C8.fnScope st_is_end3).names, y.2 = .free → (defScope s_least_word).names.lookup y.1 = some .cell ∨ (defScope s_least_word).names.lookup y.1 = some .free := by decide +kernel
def nm_least_word : Nat → Nat → Str := fun l _ => if l = lineOf st_moves then q_moves else q_is_end3
abbrev xR3 (P : Program) (w : World) (K : PySem.W.Frag) (mg : Str → Option Value) (base : Heap) (f c : Addr) (A : Around) (outer : List Env) (s : Shared) (H : Hp) (E : XK) : Cx := (cxOf CX0 P w K mg base N_least_word "least_word" (defScope s_least_word) f (.ref c) A outer s H E).nox
section
variable {P : Program} {w : World} {K : PySem.W.Frag} {mg : Str → Option Value} {base : Heap}
theorem cap_f3 {f c : Addr} {A : Around} {outer : List Env} {s : Shared} {H : Hp} {E : XK} (ok : (xR3 P w K mg base f c A outer s H E).Ok) : Caps (xR3 P w K mg base f c A outer s H E) (cloFrom (xR3 P w K mg base f c A outer s H E).env.cells (C8.fnScope st_moves).names []) ["table"] [2] := Caps.made ok free_moves (by decide +kernel) rfl
theorem cap_e3 {f c : Addr} {A : Around} {outer : List Env} {s : Shared} {H : Hp} {E : XK} (ok : (xR3 P w K mg base f c A outer s H E).Ok) : Caps (xR3 P w K mg base f c A outer s H E) (cloFrom (xR3 P w K mg base f c A outer s H E).env.cells (C8.fnScope st_is_end3).names []) ["marks"] [4] := Caps.made ok free_is_end3 (by decide +kernel) rfl
theorem cap_a3 {f c : Addr} {A : Around} {outer : List Env} {s : Shared} {H : Hp} {E : XK} : Caps (xR3 P w K mg base f c A outer s H E) (xR3 P w K mg base f c A outer s H E).env.cells ["table", "marks"] [2, 4] := ⟨fun _ _ e => e, by
  intro y hy
  simp only [List.mem_cons, List.mem_nil_iff, or_false] at hy
  rcases hy with rfl | rfl
  · exact .inl rfl
  · exact .inl rfl, fun _ _ _ e => e, rfl⟩
def sp_least_word (tabs : List NTab) : Sp := fun vs H Q _ => ∃ (m : Addr) (M : Mach), vs = [.ref m] ∧ MachAt H m M ∧ M.Ok ∧ M.rows.length ≤ 900000 ∧ TabsN tabs H ∧ ∀ H', ExtN H H' → TabsN tabs H' → Q (vO (leastM M)) H'
theorem ok_least_word (T : TX K mg) {c PT : Addr} {tabs : List NTab} (F : FunC K "least_word" "least_word" s_least_word T.a_least_word T.fd_least_word c) (TB : TabB base mg c PT) (hin : (PT, nm_least_word) ∈ tabs) (huq : ∀ p ∈ tabs, p.1 = PT → p.2 = nm_least_word) : FnOk P w K mg base CX0 6 T.a_least_word T.fd_least_word ["machine"] (sp_least_word tabs) := by
  have G_end_marks : FnOk P w K mg base CX0 1 T.a_end_marks T.fd_end_marks ["machine"] sp_end_marks := ok_end_marks T
  have G_least_read : FnOk P w K mg base CX0 5 T.a_least_read T.fd_least_read ["letters", "starts", "moves", "is_end"] (sp_least_read P w K mg base) := ok_least_read T
  refine F.ok sc_least_word (fun vs H Q E h => ?_) (fun A outer s H vs Q E hr h => ?_)
  · obtain ⟨m, M, rfl, _⟩ := h
    rfl
  · obtain ⟨m, M, rfl, hM, k, hb, tb0, q⟩ := h
    refine ⟨_, (pss_cons (ps_asg (pv 0) (pg_tupK (n := 3) K rfl (by rfl) (pgs_cons (pg_name (i := 1) sc_least_word.nd rfl (Or.inl rfl)) (pgs_cons (pg_name (i := 2) sc_least_word.nd rfl (Or.inr rfl)) (pgs_cons (pg_name (i := 3) sc_least_word.nd rfl (Or.inl rfl)) pgs_nil)))))
        (pss_cons (ps_set (i := 4) sc_least_word.nd rfl (Or.inr rfl) (pe_call G_end_marks (hr.mono (by decide)) (by rfl) T.g_end_marks T.F_end_marks.kp T.b_end_marks .nil pass0 (pa_cons (pv 0) pa_nil)))
        (pss_cons (ps_ndefMS (st := st_moves) (i := 5) rfl TB rfl hin (by kernel_rfl) huq free_moves rfl rfl rfl sc_least_word.nd rfl (Or.inl rfl) (Or.inr rfl))
        (pss_cons (ps_ndefMS (st := st_is_end3) (i := 6) rfl TB rfl hin (by kernel_rfl) huq free_is_end3 rfl rfl rfl sc_least_word.nd rfl (Or.inl rfl) (Or.inr rfl))
        (pss_one (ps_ret (pe_callTr G_least_read (hr.mono (by decide)) (by rfl) T.g_least_read T.F_least_read.kp T.b_least_read (fun _ => cap_a3) (fun _ => rfl) (pa_cons (pv 1) (pa_cons (pe_lst (pa_cons pe_int pa_nil)) (pa_cons (pv 5) (pa_cons (pv 6) pa_nil))))))))))), ?_⟩
    obtain ⟨t, e, as, h1, h2, h3, h4⟩ := id hM
    refine ⟨.ref m, rfl, m, [.str M.z, .ref t, .ref e], rfl, .inl (.inl h1), rfl, .str M.z, _, rfl, .ref t, _, rfl, .ref e, [], rfl, rfl, ?_⟩
    refine ⟨.ref m, rfl, m, M, rfl, hM, k, by omega, fun H1 mk sm1 fmk emk => ?_⟩
    refine ⟨tb0.ext sm1, fun f1 c1 H2 ex2 ng2 tb2 nf1 ef1 ec1 => ?_⟩
    refine ⟨tb2, fun f2 c2 H3a ex3a ng3 tb3a nf2 ef2 ec2 => ?_⟩
    refine ⟨.str M.z, rfl, by show 1 ≤ sizeLine; decide, fun l0 nl0 => ?_⟩
    have ex3 : ExtN H2 (upd H3a l0 (.lst [.int 0])) := fun b o eb n => (same_new nl0) _ _ (ex3a b o eb n)
    have tb3 := tb3a.ext (same_new (o := .lst [.int 0]) nl0)
    have f32 := (same_new (o := .lst [.int 0]) nl0) _ _ ef2
    have c32 := (same_new (o := .lst [.int 0]) nl0) _ _ ec2
    have el0 : (upd H3a l0 (.lst [.int 0])) l0 = some (.lst [.int 0]) := upd_same
    generalize upd H3a l0 (.lst [.int 0]) = H3 at ex3 tb3 f32 c32 el0
    refine ⟨.ref f1, rfl, .ref f2, rfl, rfl, fun ok H4 hout hnone CT => ?_⟩
    have s13 : ∀ b o, H1 b = some o → (∀ ps, o ≠ .tbl ps) → H3 b = some o := fun b o eb n => ex3 b o (ex2 b o eb n) n
    have f31 := ex3 f1 _ ef1 fun ps => fnO_ne ps
    have c31 := ex3 c1 _ ec1 fun ps => codeO_ne ps
    have nin : ∀ b o, H3 b = some o → ¬ inC (xR3 P w K mg base T.a_least_word c A outer s H E).env.cells b := fun b o eb z => by
      have := hnone b z
      rw [eb] at this
      cases this
    have up : ∀ b o, H3 b = some o → H4 b = some o := fun b o eb => by
      rw [hout b (nin b o eb)]
      exact eb
    have t4 : Tups H H4 := fun b xs eb => up b _ (s13 b _ (sm1 _ _ eb) (by intro ps z; cases z))
    have m4 : H4 mk = some (.lst ((marksOf M).map V.bl)) := up mk _ (s13 mk _ emk (by intro ps z; cases z))
    have cellE : ∀ b, inC (xR3 P w K mg base T.a_least_word c A outer s H E).env.cells b → ∃ o, H4 b = some (CellO b o) := fun b z => by
      obtain ⟨y, hy⟩ := z
      obtain ⟨o, v, z1, _⟩ := CT.all y b hy
      exact ⟨o, z1⟩
    have capF := cap_f3 ok
    have capE := cap_e3 ok
    have CF : ∀ H' : Hp, Same H4 H' → CellsT H' (cloFrom (xR3 P w K mg base T.a_least_word c A outer s H E).env.cells (C8.fnScope st_moves).names []) ["table"] [some (.ref t)] := fun H' sm => (CT.same fun b o eb => sm _ _ eb).sub capF rfl fun i y hy => by
      cases i with
      | zero => exact ⟨0, hy, rfl⟩
      | succ i => simp at hy
    have CE : ∀ H' : Hp, Same H4 H' → CellsT H' (cloFrom (xR3 P w K mg base T.a_least_word c A outer s H E).env.cells (C8.fnScope st_is_end3).names []) ["marks"] [some (.ref mk)] := fun H' sm => (CT.same fun b o eb => sm _ _ eb).sub capE rfl fun i y hy => by
      cases i with
      | zero => exact ⟨1, hy, rfl⟩
      | succ i => simp at hy
    have ca1 := Callable.of ((ok_moves (P := P) (w := w) (K := K) (mg := mg) (base := base) (f := f1) (c := c1) (cl := cloFrom (xR3 P w K mg base T.a_least_word c A outer s H E).env.cells (C8.fnScope st_moves).names [])).mono (show 1 ≤ 4 by decide))
    have ca2 := Callable.of ((ok_is_end3 (P := P) (w := w) (K := K) (mg := mg) (base := base) (f := f2) (c := c2) (cl := cloFrom (xR3 P w K mg base T.a_least_word c A outer s H E).env.cells (C8.fnScope st_is_end3).names [])).mono (show 1 ≤ 4 by decide))
    refine ⟨l0, f1, f2, _, _, _, _, M, rfl, up _ _ el0, k, hb, up _ _ f31, ca1, up _ _ f32, ca2, fun s' H' Q' hs' sm hQ => ?_, fun s' H' Q' hs' sm hQ => ?_, fun H5 sm5 => ⟨fun b z => ?_, ?_⟩⟩
    · -- moves
      obtain ⟨r, e1, e2, rl, _⟩ := k.row_at hs'
      obtain ⟨a, ea, _, ha⟩ := h3.get e1
      have ht' := sm _ _ (t4 _ _ h2)
      have ha' := sm _ _ (t4 _ _ ha)
      have z5 := k.let_.five
      have outT : ∀ (b : Addr) (xs : List V), H' b = some (.tup xs) → ¬ inC (cloFrom (xR3 P w K mg base T.a_least_word c A outer s H E).env.cells (C8.fnScope st_moves).names []) b := fun b xs eb z => by
        obtain ⟨y, hy⟩ := z
        obtain ⟨o, v, z1, _⟩ := (CF H' sm).all y b hy
        rw [eb] at z1
        cases z1
      refine ⟨[some (.ref t)], sm _ _ (up _ _ f31), sm _ _ (up _ _ c31), CF H' sm, t, a, as, r, s', rfl, rfl, ?_, ea, ?_, by omega, fun H6 p bs s6 n6 e6 o6 => ?_⟩
      · exact (hide_out (outT _ _ ht')).trans ht'
      · exact (hide_out (outT _ _ ha')).trans ha'
      · intro hno
        have nin6 : ∀ b o, H6 b = some o → ¬ inC (cloFrom (xR3 P w K mg base T.a_least_word c A outer s H E).env.cells (C8.fnScope st_moves).names []) b := fun b o eb z => by
          rw [hno b z] at eb
          cases eb
        have e2' : rowOf M s' = r := e2
        refine hQ _ p bs (fun b o eb => ?_) ?_ ?_ ?_
        · by_cases z : inC (cloFrom (xR3 P w K mg base T.a_least_word c A outer s H E).env.cells (C8.fnScope st_moves).names []) b
          · exact (back_in z).trans eb
          · exact (back_out z).trans (s6 _ _ ((hide_out z).trans eb))
        · exact (hide_out (nin6 _ _ e6)).symm.trans n6
        · exact (back_out (nin6 _ _ e6)).trans e6
        · rw [e2']
          exact o6.on fun b u eb => (back_out (nin6 _ _ eb)).trans eb
    · -- is_end
      have hb' : (marksOf M)[s']? = some (decide (s' ∈ M.ends)) := by
        unfold marksOf
        rw [List.getElem?_map, List.getElem?_range hs']
        rfl
      have hm' := sm _ _ m4
      refine ⟨[some (.ref mk)], sm _ _ (up _ _ f32), sm _ _ (up _ _ c32), CE H' sm, mk, marksOf M, decide (s' ∈ M.ends), s', rfl, rfl, ?_, hb', ?_⟩
      · rw [hide_out (fun z => by
          obtain ⟨y, hy⟩ := z
          obtain ⟨o, v, z1, _⟩ := (CE H' sm).all y mk hy
          rw [hm'] at z1
          cases z1)]
        exact hm'
      · intro _
        show Q' _ (back _ H' (hide _ H'))
        rw [back_hide]
        exact hQ H' (Same.refl H')
    · obtain ⟨o, z1⟩ := cellE b z
      rw [sm5 _ _ z1, z1]
    · have keep : ∀ b o, H3 b = some o → hide (inC (xR3 P w K mg base T.a_least_word c A outer s H E).env.cells) H5 b = some o := fun b o eb => by
        rw [hide_out (nin b o eb)]
        exact sm5 _ _ (up b o eb)
      exact q _ (fun b o eb n => keep b o (s13 b o (sm1 _ _ eb) n)) (tb3.ext fun b o eb => keep b o eb)
end
end LH

namespace LH
open PySem PySem.Spec PyProof.Rows L2
theorem flat_congr {α β : Type} {f g : α → List β} : ∀ {l : List α}, (∀ x ∈ l, f x = g x) → l.flatMap f = l.flatMap g
  | [], _ => rfl
  | a :: r, h => by rw [List.flatMap_cons, List.flatMap_cons, h a List.mem_cons_self, flat_congr fun x hx => h x (List.mem_cons_of_mem _ hx)]
/-! ### all words of a length -/
def allW (z : List Nat) : Nat → List (List Nat)
  | 0 => [[]]
  | n + 1 => (allW z n).flatMap fun w => z.map fun c => w ++ [c]
theorem allW_in {z : List Nat} : ∀ {n : Nat} {w : List Nat}, w ∈ allW z n → w.length = n ∧ ∀ c ∈ w, c ∈ z
  | 0, w, h => by
    rw [List.mem_singleton.mp h]
    exact ⟨rfl, fun _ q => nomatch q⟩
  | n + 1, w, h => by
    obtain ⟨u, hu, h⟩ := List.mem_flatMap.mp h
    obtain ⟨c, hc, rfl⟩ := List.mem_map.mp h
    obtain ⟨a, b⟩ := allW_in hu
    refine ⟨by rw [List.length_append, a]; rfl, fun d hd => ?_⟩
    rcases List.mem_append.mp hd with q | q
    · exact b d q
    · rw [List.mem_singleton.mp q]
      exact hc
theorem mem_allW {z : List Nat} : ∀ (n : Nat) (w : List Nat), w.length = n → (∀ c ∈ w, c ∈ z) → w ∈ allW z n
  | 0, w, h, _ => by
    rw [List.eq_nil_of_length_eq_zero h]
    exact List.mem_singleton_self _
  | n + 1, w, h, hc => by
    have e : w ≠ [] := fun z => by rw [z] at h; cases h
    refine List.mem_flatMap.mpr ⟨w.dropLast, mem_allW n _ (by rw [List.length_dropLast, h]; rfl) fun c q => hc c (List.dropLast_subset _ q), List.mem_map.mpr ⟨w.getLast e, hc _ (List.getLast_mem e), (List.dropLast_concat_getLast e)⟩⟩
theorem allW_len (z : List Nat) : ∀ n, (allW z n).length = z.length ^ n
  | 0 => rfl
  | n + 1 => by
    show ((allW z n).flatMap _).length = _
    rw [List.length_flatMap, Nat.pow_succ, ← allW_len z n]
    have : ((allW z n).map fun w => (z.map fun c => w ++ [c]).length) = (allW z n).map fun _ => z.length := List.map_congr_left fun w _ => List.length_map _
    rw [this, List.map_const', List.sum_replicate_nat]
theorem lt_snoc : ∀ {a b : List Nat}, a.length = b.length → a < b → ∀ x y : List Nat, a ++ x < b ++ y
  | [], [], _, h, _, _ => absurd h (List.lt_irrefl _)
  | [], _ :: _, l, _, _, _ => nomatch l
  | _ :: _, [], l, _, _, _ => nomatch l
  | a :: r, b :: t, l, h, x, y => by
    rw [List.cons_append, List.cons_append]
    rcases List.cons_lt_cons_iff.mp h with q | ⟨q1, q2⟩
    · exact List.cons_lt_cons_iff.mpr (.inl q)
    · exact List.cons_lt_cons_iff.mpr (.inr ⟨q1, lt_snoc (Nat.succ.inj l) q2 x y⟩)
theorem lt_same : ∀ (a : List Nat) {x y : List Nat}, x < y → a ++ x < a ++ y
  | [], _, _, h => h
  | a :: r, _, _, h => List.cons_lt_cons_iff.mpr (.inr ⟨rfl, lt_same r h⟩)
theorem allW_rise {z : List Nat} (hz : z.Pairwise (· < ·)) : ∀ n, (allW z n).Pairwise (· < ·)
  | 0 => List.pairwise_singleton _ _
  | n + 1 => by
    refine List.pairwise_flatMap.mpr ⟨fun w _ => ?_, ?_⟩
    · refine List.pairwise_map.mpr (hz.imp fun h => lt_same w (List.cons_lt_cons_iff.mpr (.inl h)))
    · refine (List.Pairwise.and_mem.mp (allW_rise hz n)).imp ?_
      intro a b ⟨ha, hb, h⟩ x hx y hy
      obtain ⟨c, _, rfl⟩ := List.mem_map.mp hx
      obtain ⟨d, _, rfl⟩ := List.mem_map.mp hy
      exact lt_snoc (by rw [(allW_in ha).1, (allW_in hb).1]) h _ _
theorem idx_rise {cs : List Nat} (h : cs.Pairwise (· < ·)) {i c : Nat} (e : cs[i]? = some c) : cs.idxOf c = i := by
  obtain ⟨hi, e1⟩ := List.getElem?_eq_some_iff.mp e
  have hm : c ∈ cs := List.mem_of_getElem? e
  have hj := List.idxOf_lt_length_iff.mpr hm
  have g : cs[cs.idxOf c] = c := List.getElem_idxOf hj
  rcases Nat.lt_trichotomy (cs.idxOf c) i with l | l | l
  · have := List.pairwise_iff_getElem.mp h _ _ hj hi l
    omega
  · exact l
  · have := List.pairwise_iff_getElem.mp h _ _ hi hj l
    omega
theorem run_app (M : Mach) (w : List Nat) (c : Nat) : M.run (w ++ [c]) = M.step (M.run w) c := by
  unfold Mach.run
  rw [List.foldl_append]
  rfl
theorem ext_run {M : Mach} (k : M.Ok) {w : List Nat} (hw : ∀ c ∈ w, c ∈ M.z.cps.toList) : ext M (w, M.run w) = M.z.cps.toList.map fun c => (w ++ [c], M.run (w ++ [c])) := by
  have hs : M.run w < M.rows.length := k.run_lt w 0 k.many hw
  obtain ⟨row, er, eg, l, _⟩ := k.row_at hs
  apply List.ext_getElem?
  intro i
  rw [List.getElem?_map]
  cases e : M.z.cps.toList[i]? with
  | none =>
    have : (ext M (w, M.run w)).length ≤ i := by
      rw [ext_len k hs]
      have := List.getElem?_eq_none_iff.mp e
      rw [Array.length_toList] at this
      exact this
    rw [List.getElem?_eq_none this]
    rfl
  | some c =>
    obtain ⟨row', er', ec, _⟩ := k.step_at hs (List.mem_of_getElem? e)
    rw [er] at er'
    obtain rfl := Option.some.inj er'
    rw [idx_rise k.let_.rise e] at ec
    rw [ext_at k hs eg e ec]
    show _ = some (w ++ [c], M.run (w ++ [c]))
    rw [run_app]
theorem wAll_eq {M : Mach} (k : M.Ok) : ∀ n, wAll M n = (allW M.z.cps.toList n).map fun w => (w, M.run w)
  | 0 => rfl
  | n + 1 => by
    show (wAll M n).flatMap (ext M) = ((allW M.z.cps.toList n).flatMap _).map _
    rw [wAll_eq k n, List.flatMap_map, List.map_flatMap]
    refine flat_congr fun w hw => ?_
    rw [ext_run k (allW_in hw).2, List.map_map]
    rfl
theorem words_eq {M : Mach} (k : M.Ok) (n : Nat) : wordsM M n = ((allW M.z.cps.toList n).filter M.has).map tx := by
  unfold wordsM
  rw [wAll_eq k n, List.filter_map, List.map_map]
  rfl
/-! ### the least word -/
def lvl (M : Mach) : Nat → List (List Nat × Nat)
  | 0 => [([], 0)]
  | n + 1 => lvl M n ++ wAll M (n + 1)
theorem lvl_ext (M : Mach) : ∀ n, lvl M (n + 1) = ([], 0) :: (lvl M n).flatMap (ext M)
  | 0 => rfl
  | n + 1 => by
    have e : ([], 0) :: (lvl M (n + 1)).flatMap (ext M) = (([], 0) :: (lvl M n).flatMap (ext M)) ++ wAll M (n + 2) := by
      show ([], 0) :: ((lvl M n ++ wAll M (n + 1)).flatMap (ext M)) = _
      rw [List.flatMap_append]
      rfl
    rw [e, ← lvl_ext M n]
    rfl
abbrev root : List Nat × Nat := ([], 0)
theorem opn_app (qs es fs : List (List Nat × Nat)) : opn qs (es ++ fs) = opn (opn qs es) fs := List.foldl_append
theorem opn_mem {qs : List (List Nat × Nat)} : ∀ {es : List (List Nat × Nat)} {q : List Nat × Nat}, q ∈ es → q.2 ∈ (opn qs es).map (·.2) := by
  intro es
  induction es generalizing qs with
  | nil => intro q h; cases h
  | cons e r ih =>
    intro q h
    show q.2 ∈ (opn (if e.2 ∈ qs.map (·.2) then qs else qs ++ [e]) r).map (·.2)
    rcases List.mem_cons.mp h with z | z
    · subst z
      obtain ⟨t, ht, _⟩ := opn_pre (if q.2 ∈ qs.map (·.2) then qs else qs ++ [q]) r
      rw [ht, List.map_append]
      refine List.mem_append_left _ ?_
      by_cases y : q.2 ∈ qs.map (·.2)
      · rw [if_pos y]
        exact y
      · rw [if_neg y, List.map_append]
        exact List.mem_append_right _ (by simp)
    · exact ih z
theorem opn_old {qs : List (List Nat × Nat)} : ∀ {es : List (List Nat × Nat)}, (∀ q ∈ es, q.2 ∈ qs.map (·.2)) → opn qs es = qs
  | [], _ => rfl
  | e :: r, h => by
    show opn (if e.2 ∈ qs.map (·.2) then qs else qs ++ [e]) r = qs
    rw [if_pos (h e List.mem_cons_self)]
    exact opn_old fun q hq => h q (List.mem_cons_of_mem _ hq)
theorem ext_states {M : Mach} {p p' : List Nat × Nat} (h : p.2 = p'.2) : (ext M p).map (·.2) = (ext M p').map (·.2) := by
  unfold ext
  rw [h, List.map_map, List.map_map]
  rfl
/-- what is told twice opens nothing more -/
theorem opn_flat (M : Mach) : ∀ ps : List (List Nat × Nat), opn [root] (ps.flatMap (ext M)) = opn [root] ((opn [] ps).flatMap (ext M)) := by
  intro ps
  have go : ∀ n, ∀ ps : List (List Nat × Nat), ps.length = n → opn [root] (ps.flatMap (ext M)) = opn [root] ((opn [] ps).flatMap (ext M)) := by
    intro n
    induction n with
    | zero =>
      intro ps h
      rw [List.eq_nil_of_length_eq_zero h]
      rfl
    | succ n ih =>
      intro ps h
      have ne : ps ≠ [] := fun z => by rw [z] at h; cases h
      obtain ⟨r, p, rfl⟩ : ∃ r p, ps = r ++ [p] := ⟨ps.dropLast, ps.getLast ne, (List.dropLast_concat_getLast ne).symm⟩
      have ihr := ih r (by rw [List.length_append] at h; exact Nat.succ.inj h)
      rw [opn_snoc, List.flatMap_append, opn_app, ihr]
      by_cases q : p.2 ∈ (opn [] r).map (·.2)
      · rw [if_pos q]
        obtain ⟨p', hp', e⟩ := List.mem_map.mp q
        refine opn_old fun x hx => ?_
        rw [List.flatMap_singleton] at hx
        have : x.2 ∈ (ext M p').map (·.2) := by
          rw [ext_states e]
          exact List.mem_map.mpr ⟨x, hx, rfl⟩
        obtain ⟨y, hy, ey⟩ := List.mem_map.mp this
        have := opn_mem (qs := [root]) (List.mem_flatMap.mpr ⟨p', hp', hy⟩)
        rwa [ey] at this
      · rw [if_neg q, List.flatMap_append, opn_app]
  exact go _ ps rfl
theorem opn_root (M : Mach) (n : Nat) : opn [] (lvl M (n + 1)) = opn [root] ((opn [] (lvl M n)).flatMap (ext M)) := by
  rw [lvl_ext, ← opn_flat]
  rfl
theorem opn_mono {qs es fs : List (List Nat × Nat)} (h : es <+: fs) : opn qs es <+: opn qs fs := by
  obtain ⟨t, rfl⟩ := h
  rw [opn_app]
  obtain ⟨r, hr, _⟩ := opn_pre (opn qs es) t
  exact ⟨r, hr.symm⟩
theorem flat_mono {M : Mach} {es fs : List (List Nat × Nat)} (h : es <+: fs) : es.flatMap (ext M) <+: fs.flatMap (ext M) := by
  obtain ⟨t, rfl⟩ := h
  rw [List.flatMap_append]
  exact ⟨_, rfl⟩
theorem qAt_flat (M : Mach) : ∀ i, qAt M i = opn [root] (((qAt M i).take i).flatMap (ext M))
  | 0 => rfl
  | i + 1 => by
    have ih := qAt_flat M i
    cases h : (qAt M i)[i]? with
    | none =>
      have hl := List.getElem?_eq_none_iff.mp h
      rw [qAt_stop hl, List.take_of_length_le (Nat.le_succ_of_le hl)]
      rw [List.take_of_length_le hl] at ih
      exact ih
    | some p =>
      have e1 : (qAt M (i + 1)).take (i + 1) = (qAt M i).take i ++ [p] := by
        obtain ⟨r, hr, _⟩ := opn_pre (qAt M i) (ext M p)
        rw [qAt_go h, hr, List.take_append_of_le_length (List.getElem?_eq_some_iff.mp h).1, List.take_add_one, h]
        rfl
      rw [e1, List.flatMap_append, opn_app, ← ih, List.flatMap_singleton]
      exact qAt_go h
theorem qAt_next (M : Mach) (i : Nat) : qAt M (i + 1) = opn [root] (((qAt M i).take (i + 1)).flatMap (ext M)) := by
  have q := qAt_flat M (i + 1)
  cases h : (qAt M i)[i]? with
  | none =>
    have hl := List.getElem?_eq_none_iff.mp h
    rw [qAt_stop hl] at q ⊢
    exact q
  | some p =>
    obtain ⟨r, hr, _⟩ := opn_pre (qAt M i) (ext M p)
    rw [qAt_go h, hr, List.take_append_of_le_length (List.getElem?_eq_some_iff.mp h).1, ← hr, ← qAt_go h] at q
    exact q
theorem qAt_lvl (M : Mach) : ∀ i, qAt M i <+: opn [] (lvl M i)
  | 0 => List.prefix_refl _
  | i + 1 => by
    rw [qAt_next, opn_root]
    exact opn_mono (flat_mono ((List.take_prefix _ _).trans (qAt_lvl M i)))
theorem lvl_qAt {M : Mach} (k : M.Ok) : ∀ n, opn [] (lvl M n) <+: qAt M M.rows.length
  | 0 => by
    obtain ⟨r, hr⟩ := qAt_pre M 0 M.rows.length
    rw [Nat.zero_add] at hr
    rw [hr]
    exact ⟨r, rfl⟩
  | n + 1 => by
    have e := qAt_flat M M.rows.length
    rw [List.take_of_length_le (qAt_len k _)] at e
    rw [opn_root, e]
    exact opn_mono (flat_mono (lvl_qAt k n))
theorem lvl_all {M : Mach} (k : M.Ok) {n : Nat} (h : M.rows.length ≤ n) : opn [] (lvl M n) = qAt M M.rows.length := by
  have a := lvl_qAt k n
  have b := qAt_lvl M n
  rw [qAt_last k h] at b
  exact a.eq_of_length_le b.length_le
theorem find_opn (M : Mach) (qs : List (List Nat × Nat)) : ∀ es, (opn qs es).find? (isE M) = (qs ++ es).find? (isE M) := by
  intro es
  induction es generalizing qs with
  | nil =>
    rw [List.append_nil]
    rfl
  | cons e r ih =>
    show (opn (if e.2 ∈ qs.map (·.2) then qs else qs ++ [e]) r).find? (isE M) = _
    rw [ih]
    by_cases h : e.2 ∈ qs.map (·.2)
    · rw [if_pos h]
      obtain ⟨p, hp, ep⟩ := List.mem_map.mp h
      rw [List.find?_append, List.find?_append, List.find?_cons]
      cases he : isE M e with
      | false => rfl
      | true =>
        have : isE M p = true := by
          unfold isE at he ⊢
          rw [ep]
          exact he
        cases hq : qs.find? (isE M) with
        | none =>
          have := List.find?_eq_none.mp hq p hp
          contradiction
        | some x => rfl
    · rw [if_neg h, List.append_assoc]
      rfl
theorem least_lvl {M : Mach} (k : M.Ok) {n : Nat} (h : M.rows.length ≤ n) : leastM M = ((lvl M n).find? (isE M)).map (·.1) := by
  unfold leastM
  rw [← lvl_all k h, find_opn, List.nil_append]
theorem lvl_app (M : Mach) (n : Nat) : ∀ d, ∃ r, lvl M (n + d) = lvl M n ++ r
  | 0 => ⟨[], (List.append_nil _).symm⟩
  | d + 1 => by
    obtain ⟨r, hr⟩ := lvl_app M n d
    exact ⟨r ++ wAll M (n + d + 1), by rw [← List.append_assoc, ← hr]; rfl⟩
theorem lvl_mem {M : Mach} {p : List Nat × Nat} : ∀ {n}, p ∈ lvl M n ↔ ∃ m, m ≤ n ∧ p ∈ wAll M m
  | 0 => ⟨fun h => ⟨0, Nat.le_refl _, h⟩, fun ⟨m, hm, h⟩ => by rw [Nat.le_zero.mp hm] at h; exact h⟩
  | n + 1 => by
    show p ∈ lvl M n ++ wAll M (n + 1) ↔ _
    rw [List.mem_append, lvl_mem]
    constructor
    · rintro (⟨m, a, b⟩ | h)
      · exact ⟨m, by omega, b⟩
      · exact ⟨n + 1, Nat.le_refl _, h⟩
    · rintro ⟨m, a, b⟩
      by_cases e : m = n + 1
      · subst e
        exact .inr b
      · exact .inl ⟨m, by omega, b⟩
theorem words_nil {M : Mach} {n : Nat} (h : ∀ p ∈ wAll M n, isE M p = false) : wordsM M n = [] := by
  unfold wordsM
  rw [List.map_eq_nil_iff, List.filter_eq_nil_iff]
  intro p hp z
  have := h p hp
  unfold isE at this
  rw [this] at z
  cases z
theorem least_non {M : Mach} (k : M.Ok) (h : leastM M = none) (n : Nat) : wordsM M n = [] := by
  rw [least_lvl k (n := M.rows.length + n) (by omega), Option.map_eq_none_iff, List.find?_eq_none] at h
  exact words_nil fun p hp => by
    have := h p (lvl_mem.mpr ⟨n, by omega, hp⟩)
    cases e : isE M p with
    | false => rfl
    | true => exact absurd e this
theorem least_is {M : Mach} (k : M.Ok) {x : List Nat} (h : leastM M = some x) : (∀ n, n < x.length → wordsM M n = []) ∧ (∃ r, wordsM M x.length = tx x :: r) ∧ M.has x = true ∧ (∀ c ∈ x, c ∈ M.z.cps.toList) ∧ x.length ≤ M.rows.length := by
  rw [least_lvl k (Nat.le_refl _), Option.map_eq_some_iff] at h
  obtain ⟨p, hf, rfl⟩ := h
  obtain ⟨hp, as, bs, el, hn⟩ := List.find?_eq_some_iff_append.mp hf
  obtain ⟨m, hm, hw⟩ := lvl_mem.mp (List.mem_of_find?_eq_some hf)
  obtain ⟨hs, hl⟩ := (wAll_ok k m).2 p hw
  have hin : p.1 ∈ allW M.z.cps.toList m ∧ p.2 = M.run p.1 := by
    rw [wAll_eq k] at hw
    obtain ⟨u, hu, rfl⟩ := List.mem_map.mp hw
    exact ⟨hu, rfl⟩
  have no : ∀ q ∈ as, isE M q = false := fun q hq => by simpa using hn q hq
  -- all that is shorter stands ahead of it
  obtain ⟨t, ht⟩ := lvl_app M m (M.rows.length - m)
  rw [show m + (M.rows.length - m) = M.rows.length by omega] at ht
  have fm : (lvl M m).find? (isE M) = some p := by
    rw [ht, List.find?_append] at hf
    cases e : (lvl M m).find? (isE M) with
    | none =>
      have := List.find?_eq_none.mp e p (lvl_mem.mpr ⟨m, Nat.le_refl _, hw⟩)
      exact absurd hp this
    | some y =>
      rw [e] at hf
      exact hf
  have short : ∀ n, n < m → ∀ q ∈ wAll M n, isE M q = false := fun n hnm q hq => by
    cases m with
    | zero => omega
    | succ m =>
      have fm : (lvl M m ++ wAll M (m + 1)).find? (isE M) = some p := fm
      rw [List.find?_append] at fm
      cases e : (lvl M m).find? (isE M) with
      | none =>
        have := List.find?_eq_none.mp e q (lvl_mem.mpr ⟨n, by omega, hq⟩)
        simpa using this
      | some y =>
        rw [e] at fm
        have ey : y = p := Option.some.inj fm
        obtain ⟨m', hm', hw'⟩ := lvl_mem.mp (List.mem_of_find?_eq_some e)
        have := ((wAll_ok k m').2 y hw').2
        rw [ey] at this
        omega
  have fw : (wAll M m).find? (isE M) = some p := by
    cases m with
    | zero => exact fm
    | succ m =>
      have fm : (lvl M m ++ wAll M (m + 1)).find? (isE M) = some p := fm
      rw [List.find?_append] at fm
      have e : (lvl M m).find? (isE M) = none := List.find?_eq_none.mpr fun q hq => by
        obtain ⟨n, hn, hq⟩ := lvl_mem.mp hq
        rw [short n (by omega) q hq]
        exact Bool.false_ne_true
      rw [e] at fm
      exact fm
  subst hl
  refine ⟨fun n hn => words_nil (short n hn), ?_, ?_, (allW_in hin.1).2, hm⟩
  · obtain ⟨_, as, bs, el, hn⟩ := List.find?_eq_some_iff_append.mp fw
    have e0 : as.filter (fun q => hope M 0 q.2) = [] := List.filter_eq_nil_iff.mpr fun q hq z => by
      have := hn q hq
      unfold isE at this
      rw [z] at this
      cases this
    unfold wordsM
    rw [el, List.filter_append, e0, List.filter_cons_of_pos (p := fun q : List Nat × Nat => hope M 0 q.2) (show hope M 0 p.2 = true from hp)]
    exact ⟨_, rfl⟩
  · have hp : decide (p.2 ∈ M.ends) = true := hp
    unfold Mach.has
    rw [← hin.2]
    exact hp
end LH

namespace LH
open PySem PySem.Spec PyProof.Rows L2
/-! ### patterns: items, words of items -/
structure Itm where
  s : List Nat
  m : Nat
deriving DecidableEq
inductive Mt : List Itm → List Nat → Prop
  | nil : Mt [] []
  | one {s r c w} : c ∈ s → Mt r w → Mt (⟨s, 0⟩ :: r) (c :: w)
  | skip {s r w} : Mt r w → Mt (⟨s, 1⟩ :: r) w
  | star {s r c w} : c ∈ s → Mt (⟨s, 1⟩ :: r) w → Mt (⟨s, 1⟩ :: r) (c :: w)
  | plus {s r c w} : c ∈ s → Mt (⟨s, 1⟩ :: r) w → Mt (⟨s, 2⟩ :: r) (c :: w)
/-- what is left when the item has just read -/
def restI (i : Itm) (r : List Itm) : List Itm := if i.m = 0 then r else ⟨i.s, 1⟩ :: r
def starI (i : Itm) : Bool := i.m == 1
theorem mt_nil : ∀ {its : List Itm}, (∀ i ∈ its, i.m ≤ 2) → (Mt its [] ↔ ∀ i ∈ its, i.m = 1)
  | [], _ => ⟨fun _ _ h => (nomatch h), fun _ => .nil⟩
  | ⟨s, m⟩ :: r, h => by
    have ih := mt_nil (its := r) fun i hi => h i (List.mem_cons_of_mem _ hi)
    constructor
    · intro q i hi
      cases q with
      | skip q =>
        rcases List.mem_cons.mp hi with rfl | hi
        · rfl
        · exact ih.mp q i hi
    · intro q
      have e : m = 1 := q _ List.mem_cons_self
      subst e
      exact .skip (ih.mpr fun i hi => q i (List.mem_cons_of_mem _ hi))
theorem mt_cons : ∀ {its : List Itm} {c : Nat} {w : List Nat}, (∀ i ∈ its, i.m ≤ 2) → (Mt its (c :: w) ↔ ∃ (k : Nat) (i : Itm), its[k]? = some i ∧ (∀ j ∈ its.take k, j.m = 1) ∧ c ∈ i.s ∧ Mt (restI i (its.drop (k + 1))) w)
  | [], c, w, _ => ⟨fun h => (nomatch h), fun ⟨k, i, h, _⟩ => by simp at h⟩
  | ⟨s, m⟩ :: r, c, w, h => by
    have ih := mt_cons (its := r) (c := c) (w := w) fun i hi => h i (List.mem_cons_of_mem _ hi)
    have hm : m ≤ 2 := h _ List.mem_cons_self
    constructor
    · intro q
      cases q with
      | one hc q => exact ⟨0, _, rfl, fun _ h => (nomatch h), hc, q⟩
      | skip q =>
        obtain ⟨k, i, h1, h2, h3, h4⟩ := ih.mp q
        refine ⟨k + 1, i, h1, fun j hj => ?_, h3, h4⟩
        rw [List.take_succ_cons] at hj
        rcases List.mem_cons.mp hj with rfl | hj
        · rfl
        · exact h2 j hj
      | star hc q => exact ⟨0, _, rfl, fun _ h => (nomatch h), hc, q⟩
      | plus hc q => exact ⟨0, _, rfl, fun _ h => (nomatch h), hc, q⟩
    · rintro ⟨k, i, h1, h2, h3, h4⟩
      cases k with
      | zero =>
        cases h1
        unfold restI at h4
        match m, hm, h4 with
        | 0, _, h4 => exact .one h3 h4
        | 1, _, h4 => exact .star h3 h4
        | 2, _, h4 => exact .plus h3 h4
      | succ k =>
        rw [List.take_succ_cons] at h2
        have e : m = 1 := h2 _ List.mem_cons_self
        subst e
        exact .skip (ih.mpr ⟨k, i, h1, fun j hj => h2 j (List.mem_cons_of_mem _ hj), h3, h4⟩)
/-! ### places: signs, and whether they stay -/
abbrev Plc := List Nat × Bool
inductive Mp : List Plc → List Nat → Prop
  | stop {r} : Mp (([], false) :: r) []
  | skip {s r w} : Mp r w → Mp ((s, true) :: r) w
  | go {s r c w} : c ∈ s → Mp r w → Mp ((s, false) :: r) (c :: w)
  | stay {s r c w} : c ∈ s → Mp ((s, true) :: r) w → Mp ((s, true) :: r) (c :: w)
def plI (i : Itm) : List Plc := (if i.m = 1 then [] else [(i.s, false)]) ++ (if i.m = 0 then [] else [(i.s, true)])
def plB (br : List Itm) : List Plc := br.flatMap plI ++ [([], false)]
def plA (brs : List (List Itm)) : List Plc := brs.flatMap plB
def stI (brs : List (List Itm)) : List Nat := (List.range brs.length).map fun j => (plA (brs.take j)).length
theorem plI_0 (s : List Nat) : plI ⟨s, 0⟩ = [(s, false)] := rfl
theorem plI_1 (s : List Nat) : plI ⟨s, 1⟩ = [(s, true)] := rfl
theorem plI_2 (s : List Nat) : plI ⟨s, 2⟩ = [(s, false), (s, true)] := rfl
theorem mp_of_mt {rest : List Plc} {its : List Itm} {w : List Nat} (h : Mt its w) : Mp (its.flatMap plI ++ ([], false) :: rest) w := by
  induction h with
  | nil => exact .stop
  | one hc _ ih => exact .go hc ih
  | skip _ ih => exact .skip ih
  | star hc _ ih => exact .stay hc ih
  | plus hc _ ih => exact .go hc ih
theorem mt_of_mp {rest : List Plc} : ∀ (n : Nat) {its : List Itm} {w : List Nat}, its.length + w.length ≤ n → (∀ i ∈ its, i.m ≤ 2 ∧ i.s ≠ []) → Mp (its.flatMap plI ++ ([], false) :: rest) w → Mt its w
  | n, [], w, _, _, h => by
    cases h with
    | stop => exact .nil
    | go hc _ => exact nomatch hc
  | 0, i :: r, w, hn, _, _ => by simp at hn
  | n + 1, ⟨s, m⟩ :: r, w, hn, hm, h => by
    have hn : r.length + 1 + w.length ≤ n + 1 := hn
    have h2 : m ≤ 2 := (hm _ List.mem_cons_self).1
    have h3 : s ≠ [] := (hm _ List.mem_cons_self).2
    have hr : ∀ i ∈ r, i.m ≤ 2 ∧ i.s ≠ [] := fun i hi => hm i (List.mem_cons_of_mem _ hi)
    match m, h2, h with
    | 0, _, h =>
      have h : Mp ((s, false) :: (r.flatMap plI ++ ([], false) :: rest)) w := h
      generalize hq : (r.flatMap plI ++ ([], false) :: rest) = q at h
      cases h with
      | stop => exact absurd rfl h3
      | go hc h =>
        subst hq
        exact .one hc (mt_of_mp n (by simp at hn ⊢; omega) hr h)
    | 1, _, h =>
      have h : Mp ((s, true) :: (r.flatMap plI ++ ([], false) :: rest)) w := h
      generalize hq : (r.flatMap plI ++ ([], false) :: rest) = q at h
      cases h with
      | skip h =>
        subst hq
        exact .skip (mt_of_mp n (by omega) hr h)
      | stay hc h =>
        subst hq
        refine .star hc (mt_of_mp n (its := ⟨s, 1⟩ :: r) (by simp at hn ⊢; omega) (fun i hi => ?_) h)
        rcases List.mem_cons.mp hi with rfl | hi
        · exact ⟨by show 1 ≤ 2; decide, h3⟩
        · exact hr i hi
    | 2, _, h =>
      have h : Mp ((s, false) :: (s, true) :: (r.flatMap plI ++ ([], false) :: rest)) w := h
      generalize hq : (r.flatMap plI ++ ([], false) :: rest) = q at h
      cases h with
      | stop => exact absurd rfl h3
      | go hc h =>
        subst hq
        refine .plus hc (mt_of_mp n (its := ⟨s, 1⟩ :: r) (by simp at hn ⊢; omega) (fun i hi => ?_) h)
        rcases List.mem_cons.mp hi with rfl | hi
        · exact ⟨by show 1 ≤ 2; decide, h3⟩
        · exact hr i hi
end LH

namespace LH
open PySem PySem.Spec PyProof.Rows L2
/-! ### places held: links, closures, words -/
def sgP (ps : List Plc) (q : Nat) : List Nat := (ps.getD q ([], false)).1
def stP (ps : List Plc) (q : Nat) : Bool := (ps.getD q ([], false)).2
/-- q is come to from t by places that stay -/
def Lnk (ps : List Plc) (t q : Nat) : Prop := t ≤ q ∧ ∀ r, r < q → t ≤ r → stP ps r = true
instance (ps : List Plc) (t q : Nat) : Decidable (Lnk ps t q) := inferInstanceAs (Decidable (t ≤ q ∧ ∀ r, r < q → t ≤ r → stP ps r = true))
theorem Lnk.refl (ps : List Plc) (t : Nat) : Lnk ps t t := ⟨Nat.le_refl _, fun r h1 h2 => by omega⟩
theorem Lnk.step {ps : List Plc} {t q : Nat} (h : Lnk ps t q) (s : stP ps q = true) : Lnk ps t (q + 1) := by
  refine ⟨by have := h.1; omega, fun r h1 h2 => ?_⟩
  by_cases e : r = q
  · rw [e]; exact s
  · exact h.2 r (by omega) h2
def cloK (ps : List Plc) (T : List Nat) : List Nat := (List.range ps.length).filter fun q => decide (∃ t ∈ T, Lnk ps t q)
theorem mem_cloK {ps : List Plc} {T : List Nat} {q : Nat} : q ∈ cloK ps T ↔ q < ps.length ∧ ∃ t ∈ T, Lnk ps t q := by
  unfold cloK
  rw [List.mem_filter, List.mem_range, decide_eq_true_iff]
def tgtP (ps : List Plc) (q : Nat) : Nat := if stP ps q = true then q else q + 1
def nxtK (ps : List Plc) (ks : List Nat) (c : Nat) : List Nat := (ks.filter fun q => decide (c ∈ sgP ps q)).map (tgtP ps)
structure PlOk (ps : List Plc) : Prop where
  last : ∀ q, stP ps q = true → q + 1 < ps.length
  next : ∀ q, sgP ps q ≠ [] → q + 1 < ps.length
  stop : ∀ q, sgP ps q = [] → stP ps q = false
def Clo (ps : List Plc) (ks : List Nat) : Prop := ∀ q ∈ ks, q < ps.length ∧ (stP ps q = true → q + 1 ∈ ks)
theorem clo_cloK {ps : List Plc} (ok : PlOk ps) (T : List Nat) : Clo ps (cloK ps T) := fun q h => by
  obtain ⟨h1, t, h2, h3⟩ := mem_cloK.mp h
  exact ⟨h1, fun s => mem_cloK.mpr ⟨ok.last q s, t, h2, h3.step s⟩⟩
theorem drop_P {ps : List Plc} {q : Nat} (h : q < ps.length) : ps.drop q = (sgP ps q, stP ps q) :: ps.drop (q + 1) := by
  rw [List.drop_eq_getElem_cons h]
  unfold sgP stP
  rw [List.getD_eq_getElem?_getD, List.getElem?_eq_getElem h]
  rfl
theorem mp_nilK {ps : List Plc} (ok : PlOk ps) {ks : List Nat} (cl : Clo ps ks) : (∃ q ∈ ks, Mp (ps.drop q) []) ↔ ∃ q ∈ ks, sgP ps q = [] := by
  constructor
  · rintro ⟨q, hq, h⟩
    generalize hn : ps.length - q = n
    induction n generalizing q with
    | zero =>
      have := (cl q hq).1
      omega
    | succ n ih =>
      obtain ⟨l, s⟩ := cl q hq
      rw [drop_P l] at h
      generalize hs : sgP ps q = a at h
      generalize ht : stP ps q = b at h
      cases h with
      | stop => exact ⟨q, hq, hs⟩
      | skip h => exact ih (q + 1) (s ht) h (by omega)
  · rintro ⟨q, hq, h⟩
    refine ⟨q, hq, ?_⟩
    rw [drop_P (cl q hq).1, h, ok.stop q h]
    exact .stop
theorem mp_link {ps : List Plc} {t q : Nat} {w : List Nat} (h : Lnk ps t q) (l : q < ps.length) (m : Mp (ps.drop q) w) : Mp (ps.drop t) w := by
  obtain ⟨h1, h2⟩ := h
  obtain ⟨d, rfl⟩ := Nat.exists_eq_add_of_le h1
  induction d with
  | zero => exact m
  | succ d ih =>
    have s := h2 (t + d) (by omega) (by omega)
    refine ih (by omega) ?_ (by omega) (fun r a b => h2 r (by omega) b)
    rw [drop_P (by omega), s]
    exact .skip m
theorem mp_stepK {ps : List Plc} (ok : PlOk ps) {ks : List Nat} (cl : Clo ps ks) {c : Nat} {w : List Nat} : (∃ q ∈ ks, Mp (ps.drop q) (c :: w)) ↔ ∃ q ∈ cloK ps (nxtK ps ks c), Mp (ps.drop q) w := by
  constructor
  · rintro ⟨q, hq, h⟩
    generalize hn : ps.length - q = n
    induction n generalizing q with
    | zero =>
      have := (cl q hq).1
      omega
    | succ n ih =>
      obtain ⟨l, s⟩ := cl q hq
      rw [drop_P l] at h
      have key : c ∈ sgP ps q → Mp (ps.drop (tgtP ps q)) w → ∃ q ∈ cloK ps (nxtK ps ks c), Mp (ps.drop q) w := fun hc hm => by
        have hl : tgtP ps q < ps.length := by
          have := ok.next q (fun z => by rw [z] at hc; exact nomatch hc)
          unfold tgtP
          split <;> omega
        exact ⟨_, mem_cloK.mpr ⟨hl, _, List.mem_map.mpr ⟨q, List.mem_filter.mpr ⟨hq, decide_eq_true hc⟩, rfl⟩, Lnk.refl _ _⟩, hm⟩
      generalize hs : sgP ps q = a at h key
      generalize ht : stP ps q = b at h
      cases h with
      | skip h => exact ih (q + 1) (s ht) h (by omega)
      | go hc h =>
        refine key hc ?_
        unfold tgtP
        rw [if_neg (by rw [ht]; decide)]
        exact h
      | stay hc h =>
        refine key hc ?_
        unfold tgtP
        rw [if_pos ht, drop_P l, hs, ht]
        exact h
  · rintro ⟨q, hq, h⟩
    obtain ⟨l, t, ht, lk⟩ := mem_cloK.mp hq
    obtain ⟨p, hp, rfl⟩ := List.mem_map.mp ht
    obtain ⟨hp, hc⟩ := List.mem_filter.mp hp
    have hc := of_decide_eq_true hc
    have m := mp_link lk l h
    refine ⟨p, hp, ?_⟩
    unfold tgtP at m
    have e := drop_P (cl p hp).1
    cases ht : stP ps p with
    | true =>
      rw [if_pos ht, e, ht] at m
      rw [e, ht]
      exact .stay hc m
    | false =>
      rw [if_neg (by rw [ht]; decide)] at m
      rw [e, ht]
      exact .go hc m
/-- what is held behind a word -/
def heldK (ps : List Plc) (ks : List Nat) (w : List Nat) : List Nat := w.foldl (fun ks c => cloK ps (nxtK ps ks c)) ks
theorem mp_held {ps : List Plc} (ok : PlOk ps) : ∀ (w ks : List Nat), Clo ps ks → ((∃ q ∈ ks, Mp (ps.drop q) w) ↔ ∃ q ∈ heldK ps ks w, sgP ps q = [])
  | [], ks, cl => mp_nilK ok cl
  | c :: w, ks, cl => (mp_stepK ok cl).trans (mp_held ok w _ (clo_cloK ok _))
/-! ### few sets of places -/
def tgB : List Itm → Nat → List Nat
  | [], _ => []
  | i :: r, n => (if i.m = 1 then n else n + 1) :: tgB r (n + (plI i).length)
def tgA : List (List Itm) → Nat → List Nat
  | [], _ => []
  | b :: r, n => tgB b n ++ tgA r (n + (plB b).length)
def manyI (brs : List (List Itm)) : Nat := (brs.map List.length).sum
theorem tgB_len : ∀ (b : List Itm) (n : Nat), (tgB b n).length = b.length
  | [], _ => rfl
  | i :: r, n => congrArg (· + 1) (tgB_len r _)
theorem tgA_len : ∀ (brs : List (List Itm)) (n : Nat), (tgA brs n).length = manyI brs
  | [], _ => rfl
  | b :: r, n => by
    unfold tgA
    rw [List.length_append, tgB_len, tgA_len r]
    rfl
def ItOk (i : Itm) : Prop := i.m ≤ 2 ∧ i.s ≠ []
theorem tgB_mem : ∀ (b : List Itm), (∀ i ∈ b, ItOk i) → ∀ (n q : Nat) (s : List Nat) (t : Bool), (b.flatMap plI)[q]? = some (s, t) → s ≠ [] ∧ (if t = true then n + q else n + q + 1) ∈ tgB b n
  | [], _, n, q, s, t, h => by simp at h
  | ⟨s0, m⟩ :: r, ok, n, q, s, t, h => by
    have ih := tgB_mem r (fun i hi => ok i (List.mem_cons_of_mem _ hi))
    obtain ⟨h2, h3⟩ := ok _ List.mem_cons_self
    rw [List.flatMap_cons] at h
    unfold tgB
    have two : m = 0 ∨ m = 1 ∨ m = 2 := by
      have : m ≤ 2 := h2
      omega
    rcases two with rfl | rfl | rfl
    · rw [plI_0] at h
      match q, h with
      | 0, h =>
        cases h
        exact ⟨h3, List.mem_cons_self⟩
      | q + 1, h =>
        obtain ⟨a, b⟩ := ih (n + 1) q s t h
        refine ⟨a, List.mem_cons_of_mem _ ?_⟩
        show _ ∈ tgB r (n + 1)
        rw [show n + (q + 1) = n + 1 + q by omega]
        exact b
    · rw [plI_1] at h
      match q, h with
      | 0, h =>
        cases h
        exact ⟨h3, List.mem_cons_self⟩
      | q + 1, h =>
        obtain ⟨a, b⟩ := ih (n + 1) q s t h
        refine ⟨a, List.mem_cons_of_mem _ ?_⟩
        show _ ∈ tgB r (n + 1)
        rw [show n + (q + 1) = n + 1 + q by omega]
        exact b
    · rw [plI_2] at h
      match q, h with
      | 0, h =>
        cases h
        exact ⟨h3, List.mem_cons_self⟩
      | 1, h =>
        cases h
        exact ⟨h3, List.mem_cons_self⟩
      | q + 2, h =>
        obtain ⟨a, b⟩ := ih (n + 2) q s t h
        refine ⟨a, List.mem_cons_of_mem _ ?_⟩
        show _ ∈ tgB r (n + 2)
        rw [show n + (q + 2) = n + 2 + q by omega]
        exact b
theorem plB_len (b : List Itm) : (plB b).length = (b.flatMap plI).length + 1 := by
  unfold plB
  rw [List.length_append]
  rfl
/-- a place of the plan: the end of a branch, or an item's -/
theorem plA_at : ∀ (brs : List (List Itm)), (∀ b ∈ brs, ∀ i ∈ b, ItOk i) → ∀ (n q : Nat) (s : List Nat) (t : Bool), (plA brs)[q]? = some (s, t) → (s = [] ∧ t = false) ∨ (s ≠ [] ∧ (if t = true then n + q else n + q + 1) ∈ tgA brs n ∧ q + 1 < (plA brs).length)
  | [], _, n, q, s, t, h => by simp [plA] at h
  | b :: r, ok, n, q, s, t, h => by
    have e : plA (b :: r) = plB b ++ plA r := List.flatMap_cons
    rw [e] at h ⊢
    have lb := plB_len b
    by_cases hq : q < (plB b).length
    · rw [List.getElem?_append_left hq] at h
      unfold plB at h
      by_cases hq2 : q < (b.flatMap plI).length
      · rw [List.getElem?_append_left hq2] at h
        obtain ⟨a1, a2⟩ := tgB_mem b (ok b List.mem_cons_self) n q s t h
        refine .inr ⟨a1, ?_, ?_⟩
        · unfold tgA
          exact List.mem_append_left _ a2
        · rw [List.length_append]
          omega
      · have : q = (b.flatMap plI).length := by omega
        subst this
        rw [List.getElem?_append_right (Nat.le_refl _), Nat.sub_self] at h
        cases h
        exact .inl ⟨rfl, rfl⟩
    · rw [List.getElem?_append_right (by omega)] at h
      rcases plA_at r (fun b hb => ok b (List.mem_cons_of_mem _ hb)) (n + (plB b).length) _ s t h with z | ⟨z1, z2, z3⟩
      · exact .inl z
      · refine .inr ⟨z1, ?_, ?_⟩
        · unfold tgA
          refine List.mem_append_right _ ?_
          rw [show n + (plB b).length + (q - (plB b).length) = n + q by omega] at z2
          exact z2
        · rw [List.length_append]
          omega
theorem plA_get {ps : List Plc} {q : Nat} (h : q < ps.length) : ps[q]? = some (sgP ps q, stP ps q) := by
  unfold sgP stP
  rw [List.getD_eq_getElem?_getD, List.getElem?_eq_getElem h]
  rfl
theorem sgP_out {ps : List Plc} {q : Nat} (h : ¬ q < ps.length) : sgP ps q = [] ∧ stP ps q = false := by
  unfold sgP stP
  rw [List.getD_eq_getElem?_getD, List.getElem?_eq_none (by omega)]
  exact ⟨rfl, rfl⟩
theorem plOk_A {brs : List (List Itm)} (ok : ∀ b ∈ brs, ∀ i ∈ b, ItOk i) : PlOk (plA brs) := by
  refine ⟨fun q h => ?_, fun q h => ?_, fun q h => ?_⟩
  · by_cases hq : q < (plA brs).length
    · rcases plA_at brs ok 0 q _ _ (plA_get hq) with ⟨_, z⟩ | ⟨_, _, z⟩
      · rw [z] at h; exact nomatch h
      · exact z
    · rw [(sgP_out hq).2] at h; exact nomatch h
  · by_cases hq : q < (plA brs).length
    · rcases plA_at brs ok 0 q _ _ (plA_get hq) with ⟨z, _⟩ | ⟨_, _, z⟩
      · exact absurd z h
      · exact z
    · exact absurd (sgP_out hq).1 h
  · by_cases hq : q < (plA brs).length
    · rcases plA_at brs ok 0 q _ _ (plA_get hq) with ⟨_, z⟩ | ⟨z, _, _⟩
      · exact z
      · exact absurd h z
    · exact (sgP_out hq).2
theorem tgtP_mem {brs : List (List Itm)} (ok : ∀ b ∈ brs, ∀ i ∈ b, ItOk i) {q : Nat} (h : sgP (plA brs) q ≠ []) : tgtP (plA brs) q ∈ tgA brs 0 := by
  by_cases hq : q < (plA brs).length
  · rcases plA_at brs ok 0 q _ _ (plA_get hq) with ⟨z, _⟩ | ⟨_, z, _⟩
    · exact absurd z h
    · rw [Nat.zero_add] at z
      exact z
  · exact absurd (sgP_out hq).1 h
def subs {α : Type} : List α → List (List α)
  | [] => [[]]
  | a :: r => subs r ++ (subs r).map (a :: ·)
theorem subs_len {α : Type} : ∀ l : List α, (subs l).length = 2 ^ l.length
  | [] => rfl
  | a :: r => by
    show (subs r ++ (subs r).map (a :: ·)).length = _
    rw [List.length_append, List.length_map, subs_len r, List.length_cons, Nat.pow_succ]
    omega
theorem subs_filter {α : Type} (p : α → Bool) : ∀ l : List α, l.filter p ∈ subs l
  | [] => List.mem_singleton.mpr rfl
  | a :: r => by
    show _ ∈ subs r ++ (subs r).map (a :: ·)
    by_cases h : p a = true
    · rw [List.filter_cons_of_pos h]
      exact List.mem_append_right _ (List.mem_map.mpr ⟨_, subs_filter p r, rfl⟩)
    · rw [List.filter_cons_of_neg h]
      exact List.mem_append_left _ (subs_filter p r)
theorem cloK_congr {ps : List Plc} {T T' : List Nat} (h : ∀ t, t ∈ T ↔ t ∈ T') : cloK ps T = cloK ps T' := by
  unfold cloK
  refine List.filter_congr fun q _ => decide_eq_decide.mpr ?_
  constructor
  · rintro ⟨t, a, b⟩; exact ⟨t, (h t).mp a, b⟩
  · rintro ⟨t, a, b⟩; exact ⟨t, (h t).mpr a, b⟩
/-- all that can be held -/
def allK (brs : List (List Itm)) : List (List Nat) := cloK (plA brs) (stI brs) :: (subs (tgA brs 0)).map (cloK (plA brs))
theorem allK_len {brs : List (List Itm)} (h : manyI brs ≤ 8) : (allK brs).length ≤ 257 := by
  unfold allK
  rw [List.length_cons, List.length_map, subs_len, tgA_len]
  have : 2 ^ manyI brs ≤ 2 ^ 8 := Nat.pow_le_pow_right (by decide) h
  have e : 2 ^ 8 = 256 := rfl
  omega
theorem allK_next {brs : List (List Itm)} (ok : ∀ b ∈ brs, ∀ i ∈ b, ItOk i) (ks : List Nat) (c : Nat) : cloK (plA brs) (nxtK (plA brs) ks c) ∈ allK brs := by
  refine List.mem_cons_of_mem _ (List.mem_map.mpr ⟨(tgA brs 0).filter fun t => decide (t ∈ nxtK (plA brs) ks c), subs_filter _ _, cloK_congr fun t => ?_⟩)
  rw [List.mem_filter, decide_eq_true_iff]
  refine ⟨fun h => h.2, fun h => ⟨?_, h⟩⟩
  obtain ⟨q, hq, rfl⟩ := List.mem_map.mp h
  have hc := of_decide_eq_true (List.mem_filter.mp hq).2
  exact tgtP_mem ok fun z => by rw [z] at hc; exact nomatch hc
theorem allK_clo {brs : List (List Itm)} (ok : ∀ b ∈ brs, ∀ i ∈ b, ItOk i) {ks : List Nat} (h : ks ∈ allK brs) : Clo (plA brs) ks := by
  rcases List.mem_cons.mp h with rfl | h
  · exact clo_cloK (plOk_A ok) _
  · obtain ⟨T, _, rfl⟩ := List.mem_map.mp h
    exact clo_cloK (plOk_A ok) _
/-! ### words of the branches -/
theorem stI_at {brs : List (List Itm)} {q : Nat} : q ∈ stI brs ↔ ∃ j b, brs[j]? = some b ∧ q = (plA (brs.take j)).length := by
  unfold stI
  rw [List.mem_map]
  constructor
  · rintro ⟨j, hj, rfl⟩
    rw [List.mem_range] at hj
    exact ⟨j, _, List.getElem?_eq_getElem hj, rfl⟩
  · rintro ⟨j, b, h, rfl⟩
    exact ⟨j, List.mem_range.mpr (List.getElem?_eq_some_iff.mp h).1, rfl⟩
theorem plA_drop {brs : List (List Itm)} {j : Nat} {b : List Itm} (h : brs[j]? = some b) : (plA brs).drop (plA (brs.take j)).length = b.flatMap plI ++ ([], false) :: plA (brs.drop (j + 1)) := by
  obtain ⟨hj, e⟩ := List.getElem?_eq_some_iff.mp h
  have : plA brs = plA (brs.take j) ++ plA (brs.drop j) := by
    unfold plA
    rw [← List.flatMap_append, List.take_append_drop]
  rw [this, List.drop_left, List.drop_eq_getElem_cons hj, e]
  show List.flatMap plB (b :: brs.drop (j + 1)) = _
  rw [List.flatMap_cons]
  unfold plB
  rw [List.append_assoc]
  rfl
theorem plA_in {brs : List (List Itm)} {j : Nat} {b : List Itm} (h : brs[j]? = some b) : (plA (brs.take j)).length < (plA brs).length := by
  have := congrArg List.length (plA_drop h)
  rw [List.length_drop, List.length_append, List.length_cons] at this
  omega
/-- the words of the plan are those of its branches -/
theorem words_A {brs : List (List Itm)} (ok : ∀ b ∈ brs, ∀ i ∈ b, ItOk i) (w : List Nat) : (∃ q ∈ heldK (plA brs) (cloK (plA brs) (stI brs)) w, sgP (plA brs) q = []) ↔ ∃ b ∈ brs, Mt b w := by
  rw [← mp_held (plOk_A ok) w _ (clo_cloK (plOk_A ok) _)]
  constructor
  · rintro ⟨q, hq, m⟩
    obtain ⟨l, t, ht, lk⟩ := mem_cloK.mp hq
    have m := mp_link lk l m
    obtain ⟨j, b, h, rfl⟩ := stI_at.mp ht
    rw [plA_drop h] at m
    have hb := List.mem_of_getElem? h
    exact ⟨b, hb, mt_of_mp _ (Nat.le_refl _) (fun i hi => ok b hb i hi) m⟩
  · rintro ⟨b, hb, m⟩
    obtain ⟨j, h⟩ := List.mem_iff_getElem?.mp hb
    refine ⟨_, mem_cloK.mpr ⟨plA_in h, _, stI_at.mpr ⟨j, b, h, rfl⟩, Lnk.refl _ _⟩, ?_⟩
    rw [plA_drop h]
    exact mp_of_mt m
/-! ### each once -/
def ddp {α : Type} [DecidableEq α] : List α → List α
  | [] => []
  | a :: r => if a ∈ r then ddp r else a :: ddp r
theorem mem_ddp {α : Type} [DecidableEq α] {x : α} : ∀ {l : List α}, x ∈ ddp l ↔ x ∈ l
  | [] => Iff.rfl
  | a :: r => by
    unfold ddp
    have ih := mem_ddp (x := x) (l := r)
    by_cases h : a ∈ r
    · rw [if_pos h, ih, List.mem_cons]
      exact ⟨.inr, fun z => z.elim (fun e => e ▸ h) id⟩
    · rw [if_neg h, List.mem_cons, List.mem_cons, ih]
theorem ddp_nd {α : Type} [DecidableEq α] : ∀ l : List α, (ddp l).Nodup
  | [] => List.nodup_nil
  | a :: r => by
    unfold ddp
    by_cases h : a ∈ r
    · rw [if_pos h]
      exact ddp_nd r
    · rw [if_neg h]
      exact List.nodup_cons.mpr ⟨fun z => h (mem_ddp.mp z), ddp_nd r⟩
theorem ddp_len {α : Type} [DecidableEq α] : ∀ l : List α, (ddp l).length ≤ l.length
  | [] => Nat.le_refl _
  | a :: r => by
    unfold ddp
    have := ddp_len r
    by_cases h : a ∈ r
    · rw [if_pos h, List.length_cons]
      omega
    · rw [if_neg h, List.length_cons, List.length_cons]
      omega
/-! ### states by number -/
def usK (brs : List (List Itm)) : List (List Nat) := ddp (allK brs)
def uK (brs : List (List Itm)) (s : Nat) : List Nat := (usK brs).getD s []
def rK (cs : List Nat) (brs : List (List Itm)) (s : Nat) : List Nat := cs.map fun c => (usK brs).idxOf (cloK (plA brs) (nxtK (plA brs) (uK brs s) c))
def finK (brs : List (List Itm)) (s : Nat) : Bool := decide (∃ q ∈ uK brs s, sgP (plA brs) q = [])
theorem usK_len {brs : List (List Itm)} (h : manyI brs ≤ 8) : (usK brs).length ≤ 257 := Nat.le_trans (ddp_len _) (allK_len h)
theorem uK_mem {brs : List (List Itm)} {s : Nat} (h : s < (usK brs).length) : uK brs s ∈ allK brs := by
  refine mem_ddp.mp (List.mem_of_getElem? (i := s) ?_)
  unfold uK
  rw [List.getD_eq_getElem?_getD]
  show (usK brs)[s]? = _
  rw [List.getElem?_eq_getElem h]
  rfl
theorem uK_idx {brs : List (List Itm)} {ks : List Nat} (h : ks ∈ allK brs) : (usK brs).idxOf ks < (usK brs).length ∧ uK brs ((usK brs).idxOf ks) = ks := by
  have l := List.idxOf_lt_length_iff.mpr (show ks ∈ usK brs from mem_ddp.mpr h)
  refine ⟨l, ?_⟩
  unfold uK
  rw [List.getD_eq_getElem?_getD, List.getElem?_eq_getElem l, List.getElem_idxOf]
  rfl
theorem uK_inj {brs : List (List Itm)} {s t : Nat} (hs : s < (usK brs).length) (ht : t < (usK brs).length) (e : uK brs s = uK brs t) : s = t := by
  unfold uK at e
  rw [List.getD_eq_getElem?_getD, List.getD_eq_getElem?_getD, List.getElem?_eq_getElem hs, List.getElem?_eq_getElem ht] at e
  exact (List.getElem_inj (ddp_nd (allK brs))).mp e
theorem rK_run {cs : List Nat} {brs : List (List Itm)} (ok : ∀ b ∈ brs, ∀ i ∈ b, ItOk i) : ∀ (w : List Nat) (s : Nat), s < (usK brs).length → (∀ i ∈ w, i < cs.length) → uK brs (w.foldl (fun s c => (rK cs brs s).getD c 0) s) = heldK (plA brs) (uK brs s) (w.map fun i => cs.getD i 0)
  | [], s, _, _ => rfl
  | i :: w, s, hs, hw => by
    have hi := hw i List.mem_cons_self
    have st : (rK cs brs s).getD i 0 = (usK brs).idxOf (cloK (plA brs) (nxtK (plA brs) (uK brs s) (cs.getD i 0))) := by
      unfold rK
      rw [List.getD_eq_getElem?_getD, List.getElem?_map, List.getElem?_eq_getElem hi, List.getD_eq_getElem?_getD, List.getElem?_eq_getElem hi]
      rfl
    obtain ⟨a, b⟩ := uK_idx (allK_next ok (uK brs s) (cs.getD i 0))
    rw [List.foldl_cons, st, rK_run ok w _ a (fun j hj => hw j (List.mem_cons_of_mem _ hj)), b]
    rfl
end LH

namespace LH
open PySem PySem.Spec PyProof.Rows L2 NdefX LamX
/-! ### texts of items -/
abbrev tJ (cs : List Nat) : Str := ⟨cs.toArray⟩
theorem tJ_len (cs : List Nat) : (tJ cs).length = cs.length := List.size_toArray
theorem tJ_list (v : Str) : tJ v.cps.toList = v := by
  obtain ⟨a⟩ := v
  show (⟨a.toList.toArray⟩ : Str) = ⟨a⟩
  rw [Array.toArray_toList]
theorem tJ_inj {a b : List Nat} (h : tJ a = tJ b) : a = b := congrArg (fun z : Str => z.cps.toList) h
theorem tJ_app (a b : List Nat) : tJ a ++ tJ b = tJ (a ++ b) := by
  show (⟨a.toArray ++ b.toArray⟩ : Str) = ⟨(a ++ b).toArray⟩
  congr 1
  apply Array.ext'
  simp
theorem tJ_eq {a b : List Nat} : decide (V.str (tJ a) = V.str (tJ b)) = decide (a = b) := by
  by_cases h : a = b
  · rw [h]; simp
  · rw [decide_eq_false h, decide_eq_false fun e => h (tJ_inj (V.str.inj e))]
theorem vi_castJ (c : List Nat) : vi c = (c.map fun n : Nat => (n : Int)).map V.int := by
  rw [List.map_map]
  rfl
def mkI (m : Nat) : List Nat := if m = 0 then [] else if m = 1 then [42] else [43]
/-- the head of an item: a point, a letter, letters in brackets -/
inductive Hd (z : List Nat) : List Nat → List Nat → Prop
  | dot : z ≠ [] → Hd z z [46]
  | one {c} : c ∈ z → Hd z [c] [c]
  | brk {s} : s ≠ [] → s.Pairwise (· < ·) → (∀ c ∈ s, c ∈ z) → Hd z s (91 :: s ++ [93])
def ItT (z : List Nat) (i : Itm) (t : List Nat) : Prop := i.m ≤ 2 ∧ ∃ h, Hd z i.s h ∧ t = h ++ mkI i.m
inductive BrT (z : List Nat) : List Itm → List Nat → Prop
  | nil : BrT z [] []
  | cons {i r t u} : ItT z i t → BrT z r u → BrT z (i :: r) (t ++ u)
/-- small letters, of which there are few -/
def Zl (z : List Nat) : Prop := z.length ≤ 5 ∧ ∀ c ∈ z, 97 ≤ c ∧ c ≤ 122
theorem Hd.few {z s h : List Nat} (q : Hd z s h) : s ≠ [] := by
  cases q with
  | dot h => exact h
  | one => exact fun h => nomatch h
  | brk h => exact h
theorem Hd.sub {z s h : List Nat} (q : Hd z s h) : ∀ c ∈ s, c ∈ z := by
  cases q with
  | dot => exact fun _ h => h
  | one h => exact fun d hd => by rw [List.mem_singleton.mp hd]; exact h
  | brk _ _ h => exact h
theorem ItT.ok {z : List Nat} {i : Itm} {t : List Nat} (q : ItT z i t) : ItOk i := by
  obtain ⟨h, hd, q, _⟩ := q
  exact ⟨h, q.few⟩
theorem BrT.ok {z : List Nat} {b : List Itm} {t : List Nat} (q : BrT z b t) : ∀ i ∈ b, ItOk i := by
  induction q with
  | nil => exact fun _ h => nomatch h
  | cons h _ ih =>
    intro i hi
    rcases List.mem_cons.mp hi with rfl | hi
    · exact h.ok
    · exact ih i hi
theorem rise_few {s : List Nat} (h : s.Pairwise (· < ·)) (l : ∀ c ∈ s, 97 ≤ c ∧ c ≤ 122) : s.length ≤ 26 := by
  have nd : s.Nodup := h.imp fun x => Nat.ne_of_lt x
  have := len_le_of_sub nd (ys := (List.range 26).map (· + 97)) fun c hc => by
    obtain ⟨a, b⟩ := l c hc
    exact List.mem_map.mpr ⟨c - 97, List.mem_range.mpr (by omega), by omega⟩
  rwa [List.length_map, List.length_range] at this
/-- the signs of heads -/
theorem Hd.first {z s h : List Nat} (zl : Zl z) (q : Hd z s h) : ∃ c r, h = c :: r ∧ c ≠ 42 ∧ c ≠ 43 ∧ h.length ≤ 30 ∧ (∀ d ∈ h, d ≠ 124) := by
  cases q with
  | dot => exact ⟨46, [], rfl, by decide, by decide, by decide, fun d hd => by rw [List.mem_singleton.mp hd]; decide⟩
  | @one c hc =>
    have := zl.2 c hc
    exact ⟨c, [], rfl, by omega, by omega, by show 1 ≤ 30; decide, fun d hd => by rw [List.mem_singleton.mp hd]; omega⟩
  | brk h1 h2 h3 =>
    have := rise_few h2 fun c hc => zl.2 c (h3 c hc)
    refine ⟨91, s ++ [93], rfl, by decide, by decide, ?_, fun d hd => ?_⟩
    · show (s ++ [93]).length + 1 ≤ 30
      rw [List.length_append]
      show s.length + 1 + 1 ≤ 30
      omega
    · rcases List.mem_cons.mp hd with rfl | hd
      · decide
      · rcases List.mem_append.mp hd with hd | hd
        · have := zl.2 d (h3 d hd)
          omega
        · rw [List.mem_singleton.mp hd]; decide
theorem mkI_sign {m : Nat} {c : Nat} (h : c ∈ mkI m) : c = 42 ∨ c = 43 := by
  unfold mkI at h
  split at h
  · exact nomatch h
  · split at h
    · exact .inl (List.mem_singleton.mp h)
    · exact .inr (List.mem_singleton.mp h)
/-- what begins a branch's rest -/
def Fst (t : List Nat) : Prop := ∀ c r, t = c :: r → c ≠ 42 ∧ c ≠ 43
theorem BrT.first {z : List Nat} (zl : Zl z) {b : List Itm} {t : List Nat} (q : BrT z b t) : Fst t := by
  cases q with
  | nil => exact fun _ _ h => nomatch h
  | cons h _ =>
    obtain ⟨_, hd, q, rfl⟩ := h
    obtain ⟨c, r, rfl, h1, h2, _⟩ := q.first zl
    intro c' r' e
    cases e
    exact ⟨h1, h2⟩
theorem BrT.bar {z : List Nat} (zl : Zl z) {b : List Itm} {t : List Nat} (q : BrT z b t) : 124 ∉ t := by
  induction q with
  | nil => exact fun h => nomatch h
  | cons h _ ih =>
    obtain ⟨_, hd, q, rfl⟩ := h
    obtain ⟨_, _, _, _, _, _, h3⟩ := q.first zl
    intro hm
    rcases List.mem_append.mp hm with hm | hm
    · rcases List.mem_append.mp hm with hm | hm
      · exact h3 _ hm rfl
      · rcases mkI_sign hm with h | h <;> exact absurd h (by decide)
    · exact ih hm
theorem BrT.ne {z : List Nat} (zl : Zl z) {b : List Itm} {t : List Nat} (q : BrT z b t) (h : b ≠ []) : t ≠ [] := by
  cases q with
  | nil => exact absurd rfl h
  | cons g _ =>
    obtain ⟨_, hd, q, rfl⟩ := g
    obtain ⟨c, r, rfl, _⟩ := q.first zl
    exact fun h => nomatch h
theorem drop_get {b r : List Nat} {k c : Nat} (h : b.drop k = c :: r) : b[k]? = some c := by
  have := congrArg (fun l => l[0]?) h
  simpa using this
theorem drop_app {b h r : List Nat} {k : Nat} (e : b.drop k = h ++ r) : b.drop (k + h.length) = r := by
  rw [← List.drop_drop, e, List.drop_left]
section
variable {P : Program} {w : World} {K : PySem.W.Frag} {mg : Str → Option Value} {base : Heap}
theorem seven (n : Nat) (h : n ≤ 1000) : n ≤ sizeLine := Nat.le_trans h (by decide)
/-! ### mark_at -/
def sp_mark_at : Sp := fun vs H Q _ => ∃ (b r : List Nat) (k m : Nat), vs = [.str (tJ b), .int (k : Int)] ∧ b.length ≤ 1000 ∧ m ≤ 2 ∧ b.drop k = mkI m ++ r ∧ (m = 0 → Fst r) ∧ Q (.str (tJ (mkI m))) H
theorem ok_mark_at (T : TX K mg) : FnOk P w K mg base CX0 1 T.a_mark_at T.fd_mark_at ["branch", "at"] sp_mark_at := by
  refine T.F_mark_at.ok sc_mark_at (fun vs H Q E h => ?_) (fun cdv A outer s H vs Q E hr h => ?_)
  · obtain ⟨b, r, k, m, rfl, _⟩ := h
    rfl
  · obtain ⟨b, r, k, m, rfl, hb, hm, e, fr, q⟩ := h
    refine ⟨_, (pss_cons (ps_if (PW.pt (pw_and (pt_cmpR op_lt (pv 1) (pe_callB call_len_str (by rfl) T.m_len (by decide +kernel) (pa_cons (pv 0) pa_nil)) (nomark _)) (pw_and1 (pt_cmpR op_in_sign (pe_ix ix_str (pv 0) (pv 1) (fun _ _ => rfl)) pe_str (by rfl)))))
        (pss_one (ps_ret (pe_ix ix_str (pv 0) (pv 1) (fun _ _ => rfl))))
        pss_nil)
      (pss_one (ps_ret pe_str))), ?_⟩
    have bl : (tJ b).length ≤ sizeLine := by rw [tJ_len]; exact seven _ hb
    have out : ¬ k < b.length ∨ (∃ c, b[k]? = some c ∧ c ≠ 42 ∧ c ≠ 43) ∨ (∃ c, b[k]? = some c ∧ (c = 42 ∨ c = 43) ∧ mkI m = [c]) := by
      by_cases hk : k < b.length
      · have hc := List.drop_eq_getElem_cons hk
        match m, hm, e, fr with
        | 0, _, e, fr =>
          rw [hc] at e
          obtain ⟨h1, h2⟩ := fr rfl _ _ e.symm
          exact .inr (.inl ⟨_, List.getElem?_eq_getElem hk, h1, h2⟩)
        | 1, _, e, _ => exact .inr (.inr ⟨42, drop_get e, .inl rfl, rfl⟩)
        | 2, _, e, _ => exact .inr (.inr ⟨43, drop_get e, .inr rfl, rfl⟩)
      · exact .inl hk
    have nil : (¬ k < b.length ∨ (∃ c, b[k]? = some c ∧ c ≠ 42 ∧ c ≠ 43)) → mkI m = [] := fun z => by
      match m, hm, e with
      | 0, _, _ => rfl
      | 1, _, e =>
        have := drop_get e
        rcases z with z | ⟨c, z, z1, z2⟩
        · rw [List.getElem?_eq_none (by omega)] at this
          cases this
        · rw [this] at z
          exact absurd (Option.some.inj z).symm z1
      | 2, _, e =>
        have := drop_get e
        rcases z with z | ⟨c, z, z1, z2⟩
        · rw [List.getElem?_eq_none (by omega)] at this
          cases this
        · rw [this] at z
          exact absurd (Option.some.inj z).symm z2
    have s0 : (Str.ofString "" : Str) = tJ [] := by decide +kernel
    have sm : (Str.ofString "*+" : Str) = tJ [42, 43] := by decide +kernel
    refine ⟨.int (k : Int), rfl, .str (tJ b), rfl, tJ b, rfl, bl, _, _, rfl, rfl, _, rfl, ite2 (fun z => ?_) (fun z => ?_)⟩
    · have hk : k < b.length := by
        have := of_decide_eq_true z
        rw [tJ_len] at this
        omega
      have hg := List.getElem?_eq_getElem hk
      refine ⟨.str (tJ b), rfl, .int (k : Int), rfl, tJ b, (k : Int), b[k], rfl, rfl, bl, atI_nat hg, b[k], _, rfl, rfl, _, rfl, ite2 (fun y => ?_) (fun y => ?_)⟩
      · have y := of_decide_eq_true y
        rw [sm] at y
        refine ⟨.str (tJ b), rfl, .int (k : Int), rfl, tJ b, (k : Int), b[k], rfl, rfl, bl, atI_nat hg, ?_⟩
        rcases out with o | ⟨c, o, o1, o2⟩ | ⟨c, o, o1, o2⟩
        · exact absurd hk o
        · rw [hg] at o
          cases o
          rcases List.mem_cons.mp y with y | y
          · exact absurd y o1
          · exact absurd (List.mem_singleton.mp y) o2
        · rw [hg] at o
          cases o
          rw [o2] at q
          exact q
      · have y : ¬ b[k] ∈ (Str.ofString "*+" : Str).cps.toList := fun z => y (decide_eq_true z)
        rw [sm] at y
        rcases out with o | ⟨c, o, o1, o2⟩ | ⟨c, o, o1, o2⟩
        · exact absurd hk o
        · rw [nil (.inr ⟨c, o, o1, o2⟩)] at q
          rw [s0]
          exact q
        · rw [hg] at o
          cases o
          exact absurd (by rcases o1 with o1 | o1 <;> simp [o1]) y
    · have hk : ¬ k < b.length := fun h => z (decide_eq_true (by rw [tJ_len]; omega))
      rw [nil (.inl hk)] at q
      show Q (.str (Str.ofString "")) H
      rw [s0]
      exact q
end
end LH

namespace LH
open PySem PySem.Spec PyProof.Rows L2 NdefX LamX
abbrev vt (n : Nat) : List V := (List.replicate n true).map V.bl
theorem vt_snoc (n : Nat) : vt n ++ [V.bl true] = vt (n + 1) := by
  show _ = List.map V.bl (List.replicate (n + 1) true)
  rw [List.replicate_succ', List.map_append]
  rfl
theorem vt_len (n : Nat) : (vt n).length = n := by
  rw [List.length_map, List.length_replicate]
theorem all_true (n : Nat) : (List.replicate n true).all id = true := by
  rw [List.all_eq_true]
  intro b hb
  rw [(List.mem_replicate.mp hb).2]
  rfl
theorem one_lt {a b : Nat} : ([a] < [b]) ↔ a < b := by
  rw [List.cons_lt_cons_iff]
  constructor
  · rintro (h | ⟨_, h⟩)
    · exact h
    · exact absurd h (by decide)
  · exact .inl
theorem int_ne {a : Int} : (!decide (V.int a = V.int a)) = false := by simp
section
variable {P : Program} {w : World} {K : PySem.W.Frag} {mg : Str → Option Value} {base : Heap}
/-! ### rises -/
def sp_risesS : Sp := fun vs H Q _ => ∃ z : Str, vs = [.str z] ∧ z.cps.toList.Pairwise (· < ·) ∧ z.length ≤ 100 ∧ ∀ H', Same H H' → Q (.bl true) H'
theorem ok_risesS (T : TX K mg) : FnOk P w K mg base CX0 1 T.a_rises T.fd_rises ["row"] sp_risesS := by
  refine T.F_rises.ok sc_rises (fun vs H Q E h => ?_) (fun cdv A outer s H vs Q E hr h => ?_)
  · obtain ⟨z, rfl, _⟩ := h
    rfl
  · obtain ⟨z, rfl, hz, hl, q⟩ := h
    refine ⟨_, (pss_one (ps_ret (pe_callB (cr_allK K rfl rfl) (by rfl) T.m_all (by decide +kernel) (pa_cons (pe_lc (own := [("at", 1)]) (g := gName 1) (tt := tYes) (by rfl) sc_rises.nd (pi_range1 (by rfl) T.m_range (pa_cons (pe_op op_sub (pe_callB call_len_str (by rfl) T.m_len (by decide +kernel) (pa_cons (pv 0) pa_nil)) pe_int) pa_nil)) (blkOk_by (own := [("at", 1)]) (N := N_rises) (by kernel_rfl)) (fun _ _ _ _ _ => (pg_name (i := 1) sc_rises.nd rfl (by first | exact Or.inl rfl | exact Or.inr rfl))) (fun _ _ _ _ _ => pts_nil) (fun _ _ _ _ _ => (pe_cmpR op_lt_str (pe_ix ix_str (pv 0) (pv 1) (fun _ _ => rfl)) (pe_ix ix_str (pv 0) (pe_op op_add (pv 1) pe_int) (fun _ _ => rfl)) (nomark _)))) pa_nil)))), ?_⟩
    have zl : z.length ≤ sizeLine := Nat.le_trans hl (by decide)
    refine ⟨.str z, rfl, z, rfl, zl, (z.length : Int), 1, rfl, rfl, (z.length : Int) - 1, rfl, by omega, by omega, fun D nD => ?_⟩
    refine lc_range (lo := 0) (n := ((z.length : Int) - 1).toNat) (fun i H' => Same H H' ∧ H' D = some (.lst (vt i))) ⟨same_new nD, upd_same⟩ (fun i H1 hi hW => ?_) (fun H1 hW => ?_)
    · obtain ⟨s1, e1⟩ := hW
      have i0 : (0 : Int) + (i : Int) = (i : Int) := Int.zero_add _
      have h1 : i + 1 < z.cps.toList.length := by
        rw [Array.length_toList]
        show i + 1 < z.length
        omega
      have c1 : z.cps.toList[i]? = some z.cps.toList[i] := List.getElem?_eq_getElem (by omega)
      have c2 : z.cps.toList[i + 1]? = some z.cps.toList[i + 1] := List.getElem?_eq_getElem h1
      have lt := List.pairwise_iff_getElem.mp hz i (i + 1) (by omega) h1 (by omega)
      refine ⟨rfl, lcyes ?_⟩
      refine ⟨.str z, rfl, .int (0 + (i : Int)), rfl, z, 0 + (i : Int), z.cps.toList[i], rfl, rfl, zl, by rw [i0]; exact atI_nat c1, .str z, rfl, .int (0 + (i : Int)), rfl, 0 + (i : Int), 1, rfl, rfl, z, 0 + (i : Int) + 1, z.cps.toList[i + 1], rfl, rfl, zl, by rw [i0]; exact atI_nat (j := i + 1) c2, _, _, rfl, rfl, _, e1, ?_, ?_, ?_⟩
      · rw [vt_len]
        exact small1000 (by omega)
      · intro b o e
        rw [upd_ne (ne_of_none e nD)]
        exact s1 b o e
      · rw [upd_same, ← vt_snoc]
        have : decide ([z.cps.toList[i]] < [z.cps.toList[i + 1]]) = true := decide_eq_true (one_lt.mpr lt)
        show some (HO.lst (vt i ++ [V.bl (decide ([z.cps.toList[i]] < [z.cps.toList[i + 1]]))])) = _
        rw [this]
    · obtain ⟨s1, e1⟩ := hW
      refine ⟨D, _, rfl, .inl (.inl e1), ?_⟩
      rw [all_true]
      exact q _ s1
end
end LH

namespace LH
open PySem PySem.Spec PyProof.Rows L2 NdefX LamX
section
variable {P : Program} {w : World} {K : PySem.W.Frag} {mg : Str → Option Value} {base : Heap}
/-! ### bracket_at, choice_at -/
theorem s_close : (Str.ofString "]" : Str) = tJ [93] := by decide +kernel
theorem s_none : (Str.ofString "" : Str) = tJ [] := by decide +kernel
theorem find_close {b s r : List Nat} {k : Nat} (hs : ∀ c ∈ s, 97 ≤ c ∧ c ≤ 122) (e : b.drop k = 91 :: s ++ [93] ++ r) : Txt.find3 (tJ b) (tJ [93]) (k : Int) = ((k + 1 + s.length : Nat) : Int) := by
  have lb : (tJ b).length = b.length := tJ_len b
  have at_ : ∀ j, b[k + j]? = (91 :: s ++ [93] ++ r)[j]? := fun j => by rw [← e, List.getElem?_drop]
  have fi : PySem.StrLaws.find3_spec (tJ b) 93 (k : Int) = PySem.StrLaws.find3_spec (tJ b) 93 (k : Int) := rfl
  have fx : fromIndex (tJ b).length (k : Int) = k := by
    unfold fromIndex
    rw [if_neg (by omega)]
    omega
  have gd : ∀ {j c : Nat}, b[k + j]? = some c → (tJ b).cps.getD (k + j) 0 = c ∧ k + j < b.length := fun {j c} h => ⟨by
    show b.toArray.getD (k + j) 0 = c
    rw [Array.getD_eq_getD_getElem?]
    show (b.toArray[k + j]?).getD 0 = c
    rw [List.getElem?_toArray, h]
    rfl, (List.getElem?_eq_some_iff.mp h).1⟩
  have end_ : b[k + (1 + s.length)]? = some 93 := by
    rw [at_, show 91 :: s ++ [93] ++ r = (91 :: s) ++ (93 :: r) by simp, List.getElem?_append_right (by rw [List.length_cons]; omega)]
    rw [show 1 + s.length - (91 :: s).length = 0 by rw [List.length_cons]; omega]
    rfl
  obtain ⟨g1, g2⟩ := gd end_
  have before : ∀ j, j < 1 + s.length → ∃ c, b[k + j]? = some c ∧ c ≠ 93 := fun j hj => by
    rw [at_, show 91 :: s ++ [93] ++ r = (91 :: s) ++ (93 :: r) by simp, List.getElem?_append_left (by rw [List.length_cons]; omega)]
    cases j with
    | zero => exact ⟨91, rfl, by decide⟩
    | succ j =>
      have hj : j < s.length := by omega
      refine ⟨s[j], List.getElem?_eq_getElem hj, ?_⟩
      have := hs _ (List.getElem_mem hj)
      omega
  rcases PySem.StrLaws.find3_spec (tJ b) 93 (k : Int) with ⟨_, h⟩ | ⟨k', h1, h2, h3, h4, h5⟩
  · rw [fx] at h
    exact absurd g1 (h _ (by omega) (by rw [lb]; exact g2))
  · rw [fx] at h2 h5
    show Txt.find3 (tJ b) ⟨#[93]⟩ (k : Int) = _
    rw [h1]
    have a1 : ¬ k' < k + (1 + s.length) := fun z => by
      obtain ⟨d, rfl⟩ := Nat.exists_eq_add_of_le h2
      obtain ⟨c, c1, c2⟩ := before d (by omega)
      rw [(gd c1).1] at h4
      exact c2 h4
    have a2 : ¬ k + (1 + s.length) < k' := fun z => h5 _ (by omega) z g1
    omega
theorem cut_mid (b : List Nat) (x y : Nat) (h : y ≤ b.length) : cutS (tJ b) (some (x : Int)) (some (y : Int)) = tJ ((b.drop x).take (y - x)) := by
  unfold cutS
  rw [tJ_len, HT.sIx_nat, HT.sIx_nat, Nat.min_eq_left h]
  show tJ ((b.drop (min x b.length)).take (y - min x b.length)) = _
  by_cases hx : x ≤ b.length
  · rw [Nat.min_eq_left hx]
  · rw [Nat.min_eq_right (by omega), List.drop_of_length_le (Nat.le_refl _), List.drop_of_length_le (show b.length ≤ x by omega), List.take_nil, List.take_nil]
def sp_head : Sp := fun vs H Q _ => ∃ (z : Str) (b s h r : List Nat) (k : Nat), vs = [.str z, .str (tJ b), .int (k : Int)] ∧ Zl z.cps.toList ∧ b.length ≤ 1000 ∧ b.drop k = h ++ r ∧ Hd z.cps.toList s h ∧
  ∀ H' p, Same H H' → H p = none → H' p = some (.tup [.str (tJ s), .int ((k + h.length : Nat) : Int)]) → Q (.ref p) H'
def sp_bracket_at : Sp := fun vs H Q _ => ∃ (z : Str) (b s r : List Nat) (k : Nat), vs = [.str z, .str (tJ b), .int (k : Int)] ∧ Zl z.cps.toList ∧ b.length ≤ 1000 ∧ b.drop k = (91 :: s ++ [93]) ++ r ∧ s ≠ [] ∧ s.Pairwise (· < ·) ∧ (∀ c ∈ s, c ∈ z.cps.toList) ∧
  ∀ H' p, Same H H' → H p = none → H' p = some (.tup [.str (tJ s), .int ((k + s.length + 2 : Nat) : Int)]) → Q (.ref p) H'
theorem ok_bracket_at (T : TX K mg) : FnOk P w K mg base CX0 2 T.a_bracket_at T.fd_bracket_at ["letters", "branch", "at"] sp_bracket_at := by
  have G_rises : FnOk P w K mg base CX0 1 T.a_rises T.fd_rises ["row"] sp_risesS := ok_risesS T
  refine T.F_bracket_at.ok sc_bracket_at (fun vs H Q E h => ?_) (fun cdv A outer s0 H vs Q E hr h => ?_)
  · obtain ⟨z, b, s, r, k, rfl, _⟩ := h
    rfl
  · obtain ⟨z, b, s, r, k, rfl, zl, hb, e, ne, rs, sb, q⟩ := h
    refine ⟨_, (pss_cons (ps_set (i := 3) sc_bracket_at.nd rfl (Or.inl rfl) (pe_bmK K rfl PySem.F.plainAttrs_str PySem.F.slot_str_find PySem.F.type_str_find mt_find3 (pv 1) (pa_cons pe_str (pa_cons (pv 2) pa_nil))))
      (pss_cons (ps_if (pt_cmpR op_lt (pv 3) pe_int (nomark _))
        (pss_one LU.ps_never)
        pss_nil)
      (pss_cons (ps_set (i := 4) sc_bracket_at.nd rfl (Or.inl rfl) (pe_slice sl_str (pv 1) (po_some (pe_op op_add (pv 2) pe_int)) (po_some (pv 3))))
      (pss_cons (ps_if (PW.pt (pw_or (pt_cmpR op_eq (pv 4) pe_str (nomark _)) (pw_or (pt_not (pt_val (pe_call G_rises (hr.mono (by decide)) (by rfl) T.g_rises T.F_rises.kp T.b_rises .nil pass0 (pa_cons (pv 4) pa_nil)))) (pw_or1 (pt_not (pt_val (pe_callB (cr_allK K rfl rfl) (by rfl) T.m_all (by decide +kernel) (pa_cons (pe_lc (own := [("sign", 5)]) (g := gName 5) (tt := tYes) (by rfl) sc_bracket_at.nd (pi_str (pv 4)) (blkOk_by (own := [("sign", 5)]) (N := N_bracket_at) (by kernel_rfl)) (fun _ _ _ _ _ => (pg_name (i := 5) sc_bracket_at.nd rfl (by first | exact Or.inl rfl | exact Or.inr rfl))) (fun _ _ _ _ _ => pts_nil) (fun _ _ _ _ _ => (pe_cmpR op_in_sign (pv 5) (pv 0) (by rfl)))) pa_nil))))))))
        (pss_one LU.ps_never)
        pss_nil)
      (pss_one (ps_ret (pe_tup (pa_cons (pv 4) (pa_cons (pe_op op_add (pv 3) pe_int) pa_nil))))))))), ?_⟩
    have bl : (tJ b).length ≤ sizeLine := by rw [tJ_len]; exact seven _ hb
    have lets : ∀ c ∈ s, 97 ≤ c ∧ c ≤ 122 := fun c hc => zl.2 c (sb c hc)
    have few := rise_few rs lets
    have fc := find_close lets e
    have inb : k + 1 + s.length < b.length := by
      have := congrArg List.length e
      rw [List.length_drop, List.length_append, List.length_append, List.length_cons, List.length_singleton] at this
      omega
    have cut : cutS (tJ b) (some ((k : Int) + 1)) (some ((k + 1 + s.length : Nat) : Int)) = tJ s := by
      have := cut_mid b (k + 1) (k + 1 + s.length) (by omega)
      rw [show ((k + 1 : Nat) : Int) = (k : Int) + 1 by omega] at this
      rw [this]
      congr 2
      rw [← List.drop_drop, e, show k + 1 + s.length - (k + 1) = s.length by omega]
      show ((s ++ [93]) ++ r).take s.length = s
      rw [List.append_assoc, List.take_left]
    refine ⟨.str (tJ b), rfl, rfl, .int (k : Int), rfl, tJ b, _, (k : Int), rfl, rfl, ?_⟩
    rw [s_close, fc]
    have f1 : V.bl (decide (((k + 1 + s.length : Nat) : Int) < 0)) = V.bl false := by rw [decide_eq_false (by omega)]
    refine ⟨.int ((k + 1 + s.length : Nat) : Int), rfl, _, _, rfl, rfl, false, f1, iteF ?_⟩
    refine ⟨.str (tJ b), rfl, .int (k : Int), rfl, _, _, rfl, rfl, _, rfl, .int ((k + 1 + s.length : Nat) : Int), rfl, _, rfl, tJ b, rfl, bl, ?_⟩
    rw [cut]
    have f2 : V.bl (decide (V.str (tJ s) = V.str (Str.ofString ""))) = V.bl false := by rw [s_none, tJ_eq, decide_eq_false ne]
    have ls : (tJ s).length = s.length := tJ_len s
    refine ⟨.str (tJ s), rfl, rfl, false, f2, iteF ?_⟩
    refine ⟨.str (tJ s), rfl, tJ s, rfl, rs, by rw [ls]; omega, fun H1 s1 => ⟨true, rfl, iteF ?_⟩⟩
    refine ⟨.str (tJ s), rfl, tJ s, rfl, fun D nD => ?_⟩
    refine lc_it walk_str (fun i H' => Same H H' ∧ H' D = some (.lst (vt i))) ⟨s1.trans (same_new nD), upd_same⟩ (fun _ _ _ _ => trivial) (fun i v H2 H2' hi hW hY => ?_) (fun H2 hW => ?_)
    · obtain ⟨s2, e2⟩ := hW
      obtain ⟨rfl, c, hc, rfl⟩ := hY
      have hi : i < (tJ s).length := hi
      have hm : c ∈ z.cps.toList := sb c (List.mem_of_getElem? (show s[i]? = some c by rw [← hc]; exact List.getElem?_toArray.symm))
      refine ⟨rfl, lcyes ?_⟩
      refine ⟨.str (sg c), rfl, .str z, rfl, c, z, rfl, rfl, _, e2, ?_, ?_, ?_⟩
      · rw [vt_len]
        exact small1000 (by omega)
      · intro b o e
        rw [upd_ne (ne_of_none e (s1.free nD))]
        exact s2 b o e
      · rw [upd_same, ← vt_snoc, decide_eq_true hm]
    · obtain ⟨s2, e2⟩ := hW
      refine ⟨D, _, rfl, .inl (.inl e2), true, by rw [all_true], iteF ?_⟩
      refine ⟨.str (tJ s), rfl, .int ((k + 1 + s.length : Nat) : Int), rfl, _, _, rfl, rfl, by show 2 ≤ sizeLine; decide, fun p np => ?_⟩
      have e3 : ((k + 1 + s.length : Nat) : Int) + 1 = ((k + s.length + 2 : Nat) : Int) := by omega
      refine q _ p (s2.trans (same_new np)) (s2.free np) ?_
      rw [upd_same]
      show some (HO.tup [V.str (tJ s), V.int (((k + 1 + s.length : Nat) : Int) + 1)]) = _
      rw [e3]
theorem ok_choice_at (T : TX K mg) : FnOk P w K mg base CX0 3 T.a_choice_at T.fd_choice_at ["letters", "branch", "at"] sp_head := by
  have G_bracket_at : FnOk P w K mg base CX0 2 T.a_bracket_at T.fd_bracket_at ["letters", "branch", "at"] sp_bracket_at := ok_bracket_at T
  refine T.F_choice_at.ok sc_choice_at (fun vs H Q E h => ?_) (fun cdv A outer s0 H vs Q E hr h => ?_)
  · obtain ⟨z, b, s, h, r, k, rfl, _⟩ := h
    rfl
  · obtain ⟨z, b, s, h, r, k, rfl, zl, hb, e, hd, q⟩ := h
    refine ⟨_, (pss_cons (ps_set (i := 3) sc_choice_at.nd rfl (Or.inl rfl) (pe_ix ix_str (pv 1) (pv 2) (fun _ _ => rfl)))
      (pss_cons (ps_if (pt_cmpR op_eq (pv 3) pe_str (nomark _))
        (pss_one (ps_ret (pe_tup (pa_cons (pv 0) (pa_cons (pe_op op_add (pv 2) pe_int) pa_nil)))))
        pss_nil)
      (pss_cons (ps_if (pt_cmpR op_eq (pv 3) pe_str (nomark _))
        (pss_one (ps_ret (pe_call G_bracket_at (hr.mono (by decide)) (by rfl) T.g_bracket_at T.F_bracket_at.kp T.b_bracket_at .nil pass0 (pa_cons (pv 0) (pa_cons (pv 1) (pa_cons (pv 2) pa_nil))))))
        pss_nil)
      (pss_cons (ps_if (pt_cmpR op_notIn_sign (pv 3) (pv 0) (by rfl))
        (pss_one LU.ps_never)
        pss_nil)
      (pss_one (ps_ret (pe_tup (pa_cons (pv 3) (pa_cons (pe_op op_add (pv 2) pe_int) pa_nil))))))))), ?_⟩
    have bl : (tJ b).length ≤ sizeLine := by rw [tJ_len]; exact seven _ hb
    have sd : (Str.ofString "." : Str) = tJ [46] := by decide +kernel
    have so : (Str.ofString "[" : Str) = tJ [91] := by decide +kernel
    obtain ⟨c, r', rfl, _⟩ := hd.first zl
    have gc : b[k]? = some c := drop_get e
    refine ⟨.str (tJ b), rfl, .int (k : Int), rfl, tJ b, (k : Int), c, rfl, rfl, bl, atI_nat gc, ?_⟩
    have t1 : V.bl (decide (V.str (tJ [c]) = V.str (Str.ofString "."))) = V.bl (decide (c = 46)) := by rw [sd, tJ_eq]; simp
    have t2 : V.bl (decide (V.str (tJ [c]) = V.str (Str.ofString "["))) = V.bl (decide (c = 91)) := by rw [so, tJ_eq]; simp
    refine ⟨.str (tJ [c]), rfl, rfl, _, t1, ?_⟩
    generalize hh : c :: r' = h at hd e q
    cases hd with
    | dot _ =>
      cases hh
      refine iteT ⟨.str z, rfl, .int (k : Int), rfl, _, _, rfl, rfl, by show 2 ≤ sizeLine; decide, fun p np => ?_⟩
      rw [← tJ_list z] at *
      exact q _ p (same_new np) np upd_same
    | @one c' hc =>
      cases hh
      have lc := zl.2 c hc
      rw [decide_eq_false (by omega)]
      refine iteF ⟨.str (tJ [c]), rfl, rfl, _, t2, ?_⟩
      rw [decide_eq_false (by omega)]
      refine iteF ⟨.str (tJ [c]), rfl, .str z, rfl, c, z, rfl, rfl, false, by rw [decide_eq_true hc]; rfl, iteF ?_⟩
      refine ⟨.str (tJ [c]), rfl, .int (k : Int), rfl, _, _, rfl, rfl, by show 2 ≤ sizeLine; decide, fun p np => ?_⟩
      exact q _ p (same_new np) np upd_same
    | brk h1 h2 h3 =>
      cases hh
      rw [decide_eq_false (by decide)]
      refine iteF ⟨.str (tJ [91]), rfl, rfl, _, t2, ?_⟩
      rw [decide_eq_true (by decide)]
      refine iteT ⟨.str z, rfl, .str (tJ b), rfl, .int (k : Int), rfl, z, b, s, r, k, rfl, zl, hb, e, h1, h2, h3, fun H1 p s1 np ep => q H1 p s1 np ?_⟩
      have e5 : k + (91 :: s ++ [93]).length = k + s.length + 2 := by
        rw [List.length_append, List.length_cons, List.length_singleton]
        omega
      show H1 p = some (HO.tup [V.str (tJ s), V.int ((k + (91 :: s ++ [93]).length : Nat) : Int)])
      rw [e5]
      exact ep
end
end LH

namespace LH
open PySem PySem.Spec PyProof.Rows L2 NdefX LamX
/-! ### items and branches in the heap -/
def ItmsAt (H : Hp) (p : Addr) (as : List Addr) (its : List Itm) : Prop := H p = some (.lst (vr as)) ∧ as.length = its.length ∧ ∀ (i : Nat) (a : Addr) (it : Itm), as[i]? = some a → its[i]? = some it → H a = some (.tup [.str (tJ it.s), .str (tJ (mkI it.m))])
theorem ItmsAt.same {H H' : Hp} {p : Addr} {as : List Addr} {its : List Itm} (s : Same H H') (h : ItmsAt H p as its) : ItmsAt H' p as its := ⟨s _ _ h.1, h.2.1, fun i a it x y => s _ _ (h.2.2 i a it x y)⟩
theorem ItmsAt.put {H : Hp} {p D : Addr} {as : List Addr} {its : List Itm} {xs ys : List V} (h : ItmsAt H p as its) (e : H D = some (.lst xs)) (n : p ≠ D) : ItmsAt (upd H D (.lst ys)) p as its := ⟨by rw [upd_ne n]; exact h.1, h.2.1, fun i a it x y => by
  have := h.2.2 i a it x y
  rw [upd_ne (fun z => by rw [z, e] at this; cases this)]
  exact this⟩
def BrsAt (H : Hp) (p : Addr) (as : List Addr) (brs : List (List Itm)) : Prop := H p = some (.lst (vr as)) ∧ as.length = brs.length ∧ ∀ (j : Nat) (a : Addr) (br : List Itm), as[j]? = some a → brs[j]? = some br → ∃ bs, ItmsAt H a bs br
theorem BrsAt.same {H H' : Hp} {p : Addr} {as : List Addr} {brs : List (List Itm)} (s : Same H H') (h : BrsAt H p as brs) : BrsAt H' p as brs := ⟨s _ _ h.1, h.2.1, fun j a br x y => by
  obtain ⟨bs, z⟩ := h.2.2 j a br x y
  exact ⟨bs, z.same s⟩⟩
theorem snoc_at {α β : Type} {as : List α} {bs : List β} (hl : as.length = bs.length) {a : α} {b : β} {R : α → β → Prop} (h : ∀ (i : Nat) (x : α) (y : β), as[i]? = some x → bs[i]? = some y → R x y) (hab : R a b) : ∀ (i : Nat) (x : α) (y : β), (as ++ [a])[i]? = some x → (bs ++ [b])[i]? = some y → R x y := fun i x y e1 e2 => by
  by_cases hi : i < as.length
  · rw [List.getElem?_append_left hi] at e1
    rw [List.getElem?_append_left (by omega)] at e2
    exact h i x y e1 e2
  · have hi2 := (List.getElem?_eq_some_iff.mp e1).1
    rw [List.length_append] at hi2
    have hi2 : i < as.length + 1 := hi2
    obtain rfl : i = as.length := by omega
    rw [List.getElem?_append_right (Nat.le_refl _), Nat.sub_self] at e1
    rw [List.getElem?_append_right (by omega), hl, Nat.sub_self] at e2
    cases e1
    cases e2
    exact hab
section
variable {P : Program} {w : World} {K : PySem.W.Frag} {mg : Str → Option Value} {base : Heap}
theorem fit6 {n : Nat} (h : n ≤ 100000) : n < sizeLine := Nat.lt_of_le_of_lt h (by decide)
def sp_items_of : Sp := fun vs H Q _ => ∃ (z : Str) (b : List Nat) (its : List Itm), vs = [.str z, .str (tJ b)] ∧ Zl z.cps.toList ∧ b.length ≤ 1000 ∧ its ≠ [] ∧ BrT z.cps.toList its b ∧
  ∀ H' p as, Same H H' → H p = none → ItmsAt H' p as its → Q (.ref p) H'
theorem ok_items_of (T : TX K mg) : FnOk P w K mg base CX0 4 T.a_items_of T.fd_items_of ["letters", "branch"] sp_items_of := by
  have G_choice_at : FnOk P w K mg base CX0 3 T.a_choice_at T.fd_choice_at ["letters", "branch", "at"] sp_head := ok_choice_at T
  have G_mark_at : FnOk P w K mg base CX0 1 T.a_mark_at T.fd_mark_at ["branch", "at"] sp_mark_at := ok_mark_at T
  refine T.F_items_of.ok sc_items_of (fun vs H Q E h => ?_) (fun cdv A outer s0 H vs Q E hr h => ?_)
  · obtain ⟨z, b, its, rfl, _⟩ := h
    rfl
  · obtain ⟨z, b, its, rfl, zl, hb, ne, bt, q⟩ := h
    refine ⟨_, (pss_cons (ps_if (pt_cmpR op_eq (pv 1) pe_str (nomark _))
        (pss_one LU.ps_never)
        pss_nil)
      (pss_cons (ps_set (i := 2) sc_items_of.nd rfl (Or.inl rfl) (pe_lst pa_nil))
      (pss_cons (ps_set (i := 3) sc_items_of.nd rfl (Or.inl rfl) pe_int)
      (pss_cons (ps_while PassesOwn.never (pt_cmpR op_lt (pv 3) (pe_callB call_len_str (by rfl) T.m_len (by decide +kernel) (pa_cons (pv 1) pa_nil)) (nomark _))
        (pss_cons (ps_asg (pe_call G_choice_at (hr.mono (by decide)) (by rfl) T.g_choice_at T.F_choice_at.kp T.b_choice_at .nil pass0 (pa_cons (pv 0) (pa_cons (pv 1) (pa_cons (pv 3) pa_nil)))) (pg_tupK (n := 2) K rfl (by rfl) (pgs_cons (pg_name (i := 4) sc_items_of.nd rfl (Or.inl rfl)) (pgs_cons (pg_name (i := 3) sc_items_of.nd rfl (Or.inl rfl)) pgs_nil))))
          (pss_cons (ps_set (i := 5) sc_items_of.nd rfl (Or.inl rfl) (pe_call G_mark_at (hr.mono (by decide)) (by rfl) T.g_mark_at T.F_mark_at.kp T.b_mark_at .nil pass0 (pa_cons (pv 1) (pa_cons (pv 3) pa_nil))))
          (pss_cons (ps_aug (i := 3) sc_items_of.nd rfl (Or.inl rfl) (pe_callB call_len_str (by rfl) T.m_len (by decide +kernel) (pa_cons (pv 5) pa_nil)) ip_add)
          (pss_one (ps_expr (pe_bmK K rfl PySem.F.plainAttrs_list PySem.F.slot_list_append PySem.F.type_list_append mt_append (pv 2) (pa_cons (pe_tup (pa_cons (pv 4) (pa_cons (pv 5) pa_nil))) pa_nil))))))))
      (pss_one (ps_ret (pv 2))))))), ?_⟩
    have bl : (tJ b).length ≤ sizeLine := by rw [tJ_len]; exact seven _ hb
    have f1 : V.bl (decide (V.str (tJ b) = V.str (Str.ofString ""))) = V.bl false := by rw [s_none, tJ_eq, decide_eq_false (bt.ne zl ne)]
    refine ⟨.str (tJ b), rfl, rfl, false, f1, iteF ?_⟩
    refine ⟨by show 0 ≤ sizeLine; decide, fun l nl => ?_⟩
    refine ⟨fun m σ H' => ∃ (dn td : List Itm) (u : List Nat) (k : Nat) (as : List Addr) (y4 y5 : Option V), m = td.length ∧ its = dn ++ td ∧ b.drop k = u ∧ k + u.length = b.length ∧ BrT z.cps.toList td u ∧ Same H H' ∧ ItmsAt H' l as dn ∧ dn.length ≤ k ∧ σ = [some (.str z), some (.str (tJ b)), some (.ref l), some (.int (k : Int)), y4, y5],
      ⟨its.length, [], its, b, 0, [], none, none, rfl, rfl, rfl, Nat.zero_add _, bt, same_new nl, ⟨upd_same, rfl, fun i a it x => by simp at x⟩, Nat.le_refl _, rfl⟩, fun m σ H1 hW => ?_⟩
    obtain ⟨dn, td, u, k, as, y4, y5, rfl, ei, eu, lu, btd, s1, ia, dk, rfl⟩ := hW
    refine ⟨.int (k : Int), rfl, .str (tJ b), rfl, tJ b, rfl, bl, _, _, rfl, rfl, _, rfl, ite2 (fun y => ?_) (fun y => ?_)⟩
    · have hk : k < b.length := by
        have := of_decide_eq_true y
        rw [tJ_len] at this
        omega
      cases btd with
      | nil => 
        have : 0 = ([] : List Nat).length := rfl
        simp at lu
        omega
      | @cons i r t u' hi hu =>
        obtain ⟨hm, h, hd, rfl⟩ := hi
        refine ⟨fun σ' H' => ∃ (as : List Addr) (y4 y5 : Option V), Same H H' ∧ ItmsAt H' l as (dn ++ [i]) ∧ σ' = [some (.str z), some (.str (tJ b)), some (.ref l), some (.int ((k + h.length + (mkI i.m).length : Nat) : Int)), y4, y5], fun σ' H' hN => ?_, ?_⟩
        · obtain ⟨as', y4, y5, r1, r2, rfl⟩ := hN
          obtain ⟨c, r', e1, _⟩ := hd.first zl
          refine ⟨r.length, Nat.lt_succ_self _, dn ++ [i], r, u', k + h.length + (mkI i.m).length, as', y4, y5, rfl, ?_, ?_, ?_, hu, r1, r2, ?_, rfl⟩
          · rw [ei, List.append_assoc]
            rfl
          · have e2 := drop_app (h := h ++ mkI i.m) (r := u') eu
            rw [List.length_append] at e2
            rw [Nat.add_assoc]
            exact e2
          · rw [List.length_append, List.length_append] at lu
            omega
          · have hl : 1 ≤ h.length := by
              rw [e1, List.length_cons]
              omega
            rw [List.length_append]
            show dn.length + 1 ≤ _
            omega
        have eu2 : b.drop k = h ++ (mkI i.m ++ u') := by rw [eu, List.append_assoc]
        refine ⟨.str z, rfl, .str (tJ b), rfl, .int (k : Int), rfl, z, b, i.s, h, mkI i.m ++ u', k, rfl, zl, hb, eu2, hd, fun H2 p s2 np ep => ?_⟩
        refine ⟨p, _, rfl, .inl (.inl ep), rfl, .str (tJ i.s), _, rfl, .int ((k + h.length : Nat) : Int), [], rfl, rfl, ?_⟩
        refine ⟨.str (tJ b), rfl, .int ((k + h.length : Nat) : Int), rfl, b, u', k + h.length, i.m, rfl, hb, hm, drop_app eu2, fun _ => hu.first zl, ?_⟩
        refine ⟨.int ((k + h.length : Nat) : Int), rfl, .str (tJ (mkI i.m)), rfl, tJ (mkI i.m), rfl, ?_, ?_⟩
        · rw [tJ_len]
          have : (mkI i.m).length ≤ 1 := by
            unfold mkI
            split
            · decide
            · split <;> decide
          exact seven _ (by omega)
        refine ⟨_, _, rfl, rfl, ?_⟩
        have el := s2 _ _ ia.1
        refine ⟨.ref l, rfl, .inl ⟨rfl, _, .inl (.inl el)⟩, .str (tJ i.s), rfl, .str (tJ (mkI i.m)), rfl, by show 2 ≤ sizeLine; decide, fun t nt => ?_⟩
        have s3 := same_new (o := .tup [V.str (tJ i.s), V.str (tJ (mkI i.m))]) nt
        have lt := ne_of_none el nt
        have ll : as.length = dn.length := ia.2.1
        have few : as.length ≤ 100000 := by omega
        have ia3 := ia.same (s2.trans s3)
        refine ⟨l, vr as, _, rfl, rfl, s3 _ _ el, by rw [List.length_map]; exact fit6 few, as ++ [t], some (V.str (tJ i.s)), some (V.str (tJ (mkI i.m))), fun b' o eb => ?_, ⟨by rw [upd_same, vr_snoc], by rw [List.length_append, List.length_append, ll]; rfl, snoc_at ll (fun j a it x1 x2 => ?_) ?_⟩, ?_⟩
        · rw [upd_ne (ne_of_none eb nl)]
          exact s3 _ _ (s2 _ _ (s1 _ _ eb))
        · have := ia3.2.2 j a it x1 x2
          rw [upd_ne (fun z => by rw [z, ia3.1] at this; cases this)]
          exact this
        · rw [upd_ne lt.symm, upd_same]
        · have e5 : ((k + h.length : Nat) : Int) + ((tJ (mkI i.m)).length : Int) = ((k + h.length + (mkI i.m).length : Nat) : Int) := by
            rw [tJ_len]
            omega
          show [some (V.str z), some (V.str (tJ b)), some (V.ref l), some (V.int (((k + h.length : Nat) : Int) + ((tJ (mkI i.m)).length : Int))), some (V.str (tJ i.s)), some (V.str (tJ (mkI i.m)))] = _
          rw [e5]
    · have hk : b.length ≤ k := by
        have : ¬ k < b.length := fun h => y (decide_eq_true (by rw [tJ_len]; omega))
        omega
      have u0 : u = [] := List.eq_nil_of_length_eq_zero (by omega)
      cases btd with
      | nil =>
        rw [List.append_nil] at ei
        exact ⟨.ref l, rfl, q _ l as s1 nl (by rw [ei]; exact ia)⟩
      | cons hi _ =>
        obtain ⟨_, h, hd, rfl⟩ := hi
        obtain ⟨c, r', e1, _⟩ := hd.first zl
        rw [e1] at u0
        exact nomatch u0
/-! ### branches_of -/
/-- a pattern's text -/
def PatT (z : List Nat) (brs : List (List Itm)) (pt : Str) : Prop := ∃ ts : List (List Nat), pt = Txt.join (tJ [124]) (ts.map tJ) ∧ brs.length = ts.length ∧ ∀ (j : Nat) (br : List Itm) (t : List Nat), brs[j]? = some br → ts[j]? = some t → br ≠ [] ∧ BrT z br t ∧ t.length ≤ 1000
theorem PatT.ok {z : List Nat} {brs : List (List Itm)} {pt : Str} (h : PatT z brs pt) : ∀ b ∈ brs, ∀ i ∈ b, ItOk i := by
  obtain ⟨ts, _, hl, ht⟩ := h
  intro b hb i hi
  obtain ⟨j, hj⟩ := List.mem_iff_getElem?.mp hb
  have := (List.getElem?_eq_some_iff.mp hj).1
  exact (ht j b _ hj (List.getElem?_eq_getElem (by omega))).2.1.ok i hi
def sp_branches_of : Sp := fun vs H Q _ => ∃ (z pt : Str) (brs : List (List Itm)), vs = [.str z, .str pt] ∧ Zl z.cps.toList ∧ pt.length ≤ 10000 ∧ brs ≠ [] ∧ manyI brs ≤ 8 ∧ brs.length ≤ 8 ∧ PatT z.cps.toList brs pt ∧
  ∀ H' p as, Same H H' → H p = none → BrsAt H' p as brs → Q (.ref p) H'
theorem ok_branches_of (T : TX K mg) : FnOk P w K mg base CX0 5 T.a_branches_of T.fd_branches_of ["letters", "pattern"] sp_branches_of := by
  have G_items_of : FnOk P w K mg base CX0 4 T.a_items_of T.fd_items_of ["letters", "branch"] sp_items_of := ok_items_of T
  refine T.F_branches_of.ok sc_branches_of (fun vs H Q E h => ?_) (fun cdv A outer s0 H vs Q E hr h => ?_)
  · obtain ⟨z, pt, brs, rfl, _⟩ := h
    rfl
  · obtain ⟨z, pt, brs, rfl, zl, hp, ne, h8, h8b, ⟨ts, ep, hl, ht⟩, q⟩ := h
    refine ⟨_, (pss_cons (ps_if (pt_not (pt_val (pe_callB (call_isiK K rfl) (by rfl) T.m_isinstance (by decide +kernel) (pa_cons (pv 1) (pa_cons (pe_bltn (v := .ty "str") (by rfl) T.m_str (by decide +kernel) rfl) pa_nil)))))
        (pss_one LU.ps_never)
        pss_nil)
      (pss_cons (ps_setLc (i := 2) (own := [("branch", 3)]) (g := gName 3) (tt := tYes) (by rfl) sc_branches_of.nd rfl rfl (sw_true rfl rfl rfl (by decide +kernel)) (pi_listK K rfl (pe_split (pv 1) pe_str)) (blkOk_by (own := [("branch", 3)]) (N := N_branches_of) (by kernel_rfl)) (fun _ _ _ _ _ => (pg_name (i := 3) sc_branches_of.nd rfl (by first | exact Or.inl rfl | exact Or.inr rfl))) (fun _ _ _ _ _ => pts_nil) (fun _ _ _ _ _ => (pe_call G_items_of (hr.mono (by decide)) (by rfl) T.g_items_of T.F_items_of.kp T.b_items_of .nil pass0 (pa_cons (pv 0) (pa_cons (pv 3) pa_nil)))))
      (pss_cons (ps_if (pt_cmpR op_gt (pe_callB (cr_sumK K rfl rfl) (by rfl) T.m_sum (by decide +kernel) (pa_cons (pe_lc (own := [("items", 4)]) (g := gName 4) (tt := tYes) (by rfl) sc_branches_of.nd (pi_listK K rfl (pv 2)) (blkOk_by (own := [("items", 4)]) (N := N_branches_of) (by kernel_rfl)) (fun _ _ _ _ _ => (pg_name (i := 4) sc_branches_of.nd rfl (by first | exact Or.inl rfl | exact Or.inr rfl))) (fun _ _ _ _ _ => pts_nil) (fun _ _ _ _ _ => (pe_callB (call_lenK K rfl) (by rfl) T.m_len (by decide +kernel) (pa_cons (pv 4) pa_nil)))) pa_nil)) (pe_glob (v := .int 8) (by rfl) T.c_MOST_ITEMS ⟨_, rfl⟩) (nomark _))
        (pss_one LU.ps_never)
        pss_nil)
      (pss_one (ps_ret (pv 2)))))), ?_⟩
    refine ⟨.str pt, rfl, .str pt, .ty "str", .type "str", .type "str", true, rfl, .ty _, .base (.str pt), kit_ty (by decide +kernel), true, rfl, iteF ?_⟩
    have sb : (Str.ofString "|" : Str) = tJ [124] := by decide +kernel
    have spl : Txt.split pt (Str.ofString "|") = ts.map tJ := by
      rw [sb, ep]
      refine TL.split_join (s := 124) (S := []) rfl (by decide +kernel) (fun h => ne (List.eq_nil_of_length_eq_zero (by rw [hl, ← List.length_map (f := tJ), h]; rfl))) fun p hp => ?_
      obtain ⟨t, htm, rfl⟩ := List.mem_map.mp hp
      obtain ⟨j, hj⟩ := List.mem_iff_getElem?.mp htm
      have := (List.getElem?_eq_some_iff.mp hj).1
      exact (ht j _ t (List.getElem?_eq_getElem (by omega)) hj).2.1.bar zl
    refine ⟨.str pt, rfl, ⟨_, rfl⟩, pt, _, rfl, rfl, by decide +kernel, Nat.le_trans (show pt.length + 2 ≤ 20000 by omega) (by decide), fun l nl => ?_⟩
    rw [spl]
    have s1 := same_new (o := .lst ((ts.map tJ).map V.str)) nl
    have el : (upd H l (.lst ((ts.map tJ).map V.str))) l = some (.lst ((ts.map tJ).map V.str)) := upd_same
    refine ⟨l, rfl, ⟨_, .inl (.inl el)⟩, fun D nD => ?_⟩
    generalize upd H l (.lst ((ts.map tJ).map V.str)) = H1 at s1 el nD
    refine lc_it (walk_list (K := K) (a := l) (xs := (ts.map tJ).map V.str)) (fun i H' => Same H1 H' ∧ ∃ as, H' D = some (.lst (vr as)) ∧ as.length = i ∧ ∀ (j : Nat) (a : Addr) (br : List Itm), as[j]? = some a → (brs.take i)[j]? = some br → a ≠ D ∧ ∃ bs, ItmsAt H' a bs br) ⟨same_new nD, [], upd_same, rfl, fun j a br x => by simp at x⟩ (fun i H' _ hW => .inl (.inl (hW.1 _ _ el))) (fun i x H2 H2' hi hW hY => ?_) (fun H2 hW => ?_)
    · obtain ⟨s2, as, eD, la, ca⟩ := hW
      obtain ⟨rfl, hx⟩ := hY
      rw [List.length_map, List.length_map] at hi
      have htj := List.getElem?_eq_getElem hi
      rw [List.getElem?_map, List.getElem?_map, htj] at hx
      cases hx
      have hbj := List.getElem?_eq_getElem (l := brs) (i := i) (by omega)
      obtain ⟨b1, b2, b3⟩ := ht i _ _ hbj htj
      generalize brs[i]'(by omega) = br at hbj b1 b2
      refine ⟨rfl, lcyes ⟨.str z, rfl, .str (tJ ts[i]), rfl, z, ts[i], br, rfl, zl, b3, b1, b2, fun H3 p bs s3 np ia => ?_⟩⟩
      have eD3 := s3 _ _ eD
      have pD : p ≠ D := (ne_of_none eD np).symm
      have fit : (vr as).length < sizeLine := by rw [List.length_map]; exact fit6 (by omega)
      refine ⟨vr as, eD3, fit, fun b o eb => ?_, as ++ [p], by rw [upd_same, vr_snoc], by rw [List.length_append, la]; rfl, ?_⟩
      · rw [upd_ne (ne_of_none eb nD)]
        exact s3 _ _ (s2 _ _ eb)
      · rw [take_snoc hbj]
        refine snoc_at (by rw [la, List.length_take]; omega) (fun j a br' x1 x2 => ?_) ⟨pD, bs, ia.put eD3 pD⟩
        obtain ⟨n, bs', z⟩ := ca j a br' x1 x2
        exact ⟨n, bs', (z.same s3).put eD3 n⟩
    · obtain ⟨s2, as, eD, la, ca⟩ := hW
      rw [List.length_map, List.length_map] at la ca
      rw [← hl, List.take_of_length_le (Nat.le_refl _)] at ca
      have ba : BrsAt H2 D as brs := ⟨eD, by rw [la, hl], fun j a br x y => (ca j a br x y).2⟩
      refine ⟨.ref D, rfl, D, rfl, ⟨_, .inl (.inl eD)⟩, fun D2 nD2 => ?_⟩
      refine lc_it (walk_list (K := K) (a := D) (xs := vr as)) (fun i H' => Same H2 H' ∧ H' D2 = some (.lst (vi ((brs.take i).map List.length)))) ⟨same_new nD2, upd_same⟩ (fun i H' _ hW => .inl (.inl (hW.1 _ _ eD))) (fun i x H3 H3' hi hW hY => ?_) (fun H3 hW => ?_)
      · obtain ⟨s3, e3⟩ := hW
        obtain ⟨rfl, hx⟩ := hY
        rw [List.length_map] at hi
        have hai := List.getElem?_eq_getElem hi
        rw [List.getElem?_map, hai] at hx
        cases hx
        have hbi := List.getElem?_eq_getElem (l := brs) (i := i) (by omega)
        obtain ⟨_, bs, z⟩ := ca i _ _ hai hbi
        generalize brs[i]'(by omega) = br at hbi z
        refine ⟨rfl, lcyes ⟨.ref as[i], rfl, _, _, rfl, .inl (.inl (.inl (s3 _ _ z.1))), _, e3, ?_, fun b o eb => ?_, ?_⟩⟩
        · rw [List.length_map, List.length_map, List.length_take]
          exact fit6 (by omega)
        · rw [upd_ne (ne_of_none eb nD2)]
          exact s3 _ _ eb
        · have lb : (vr bs).length = br.length := by rw [List.length_map, z.2.1]
          rw [upd_same, take_snoc hbi, List.map_append, lb, vi_snoc]
          rfl
      · obtain ⟨s3, e3⟩ := hW
        rw [List.length_map, la, ← hl, List.take_of_length_le (Nat.le_refl _)] at e3
        have sum8 : ((brs.map List.length).map fun n : Nat => (n : Int)).sum = ((manyI brs : Nat) : Int) := by
          unfold manyI
          generalize brs.map List.length = l
          induction l with
          | nil => rfl
          | cons x r ih =>
            rw [List.map_cons, List.sum_cons, List.sum_cons, ih]
            omega
        have f8 : V.bl (decide ((8 : Int) < ((brs.map List.length).map fun n : Nat => (n : Int)).sum)) = V.bl false := by rw [sum8, decide_eq_false (by omega)]
        refine ⟨D2, (brs.map List.length).map fun n : Nat => (n : Int), rfl, ?_, _, _, rfl, rfl, false, f8, iteF ⟨.ref D, rfl, ?_⟩⟩
        · rw [vi_castJ] at e3
          exact .inl (.inl e3)
        · exact q H3 D as (s1.trans (s2.trans s3)) (s1.free nD) (ba.same s3)
end
end LH

namespace LH
open PySem PySem.Spec PyProof.Rows L2 NdefX LamX
/-! ### places in the heap -/
def PlsAt (H : Hp) (p : Addr) (as : List Addr) (ps : List Plc) : Prop := H p = some (.lst (vr as)) ∧ as.length = ps.length ∧ ∀ (i : Nat) (a : Addr) (q : Plc), as[i]? = some a → ps[i]? = some q → H a = some (.tup [.str (tJ q.1), .bl q.2])
theorem PlsAt.same {H H' : Hp} {p : Addr} {as : List Addr} {ps : List Plc} (s : Same H H') (h : PlsAt H p as ps) : PlsAt H' p as ps := ⟨s _ _ h.1, h.2.1, fun i a it x y => s _ _ (h.2.2 i a it x y)⟩
theorem PlsAt.put {H : Hp} {p D : Addr} {as : List Addr} {ps : List Plc} {xs ys : List V} (h : PlsAt H p as ps) (e : H D = some (.lst xs)) (n : p ≠ D) : PlsAt (upd H D (.lst ys)) p as ps := ⟨by rw [upd_ne n]; exact h.1, h.2.1, fun i a it x y => by
  have := h.2.2 i a it x y
  rw [upd_ne (fun z => by rw [z, e] at this; cases this)]
  exact this⟩
theorem PlsAt.snoc {H : Hp} {p t : Addr} {as : List Addr} {ps : List Plc} (h : PlsAt H p as ps) (nt : H t = none) (q : Plc) : PlsAt (upd (upd H t (.tup [.str (tJ q.1), .bl q.2])) p (.lst (vr as ++ [.ref t]))) p (as ++ [t]) (ps ++ [q]) := by
  have s := same_new (o := .tup [V.str (tJ q.1), V.bl q.2]) nt
  have lt := ne_of_none h.1 nt
  refine ⟨by rw [upd_same, vr_snoc], by rw [List.length_append, List.length_append, h.2.1]; rfl, snoc_at h.2.1 (fun j a it x1 x2 => ?_) ?_⟩
  · have := (h.same s).2.2 j a it x1 x2
    rw [upd_ne (fun z => by rw [z, s _ _ h.1] at this; cases this)]
    exact this
  · rw [upd_ne lt.symm, upd_same]
section
variable {P : Program} {w : World} {K : PySem.W.Frag} {mg : Str → Option Value} {base : Heap}
def sp_places_of : Sp := fun vs H Q _ => ∃ (b : Addr) (bas : List Addr) (brs : List (List Itm)), vs = [.ref b] ∧ BrsAt H b bas brs ∧ (∀ br ∈ brs, ∀ i ∈ br, ItOk i) ∧ (plA brs).length ≤ 1000 ∧ brs.length ≤ 1000 ∧
  ∀ H' p l st as, Same H H' → H' p = some (.tup [.ref l, .ref st]) → PlsAt H' l as (plA brs) → H' st = some (.lst (vi (stI brs))) → Q (.ref p) H'
theorem plA_take {brs : List (List Itm)} {j : Nat} {br : List Itm} (h : brs[j]? = some br) : plA (brs.take (j + 1)) = plA (brs.take j) ++ plB br := by
  rw [take_snoc h]
  unfold plA
  rw [List.flatMap_append]
  simp
theorem plA_pre (brs : List (List Itm)) (j : Nat) : (plA (brs.take j)).length ≤ (plA brs).length := by
  have : plA brs = plA (brs.take j) ++ plA (brs.drop j) := by
    unfold plA
    rw [← List.flatMap_append, List.take_append_drop]
  rw [this, List.length_append]
  omega
theorem plI_pre (br : List Itm) (j : Nat) : ((br.take j).flatMap plI).length ≤ (br.flatMap plI).length := by
  have : br.flatMap plI = (br.take j).flatMap plI ++ (br.drop j).flatMap plI := by
    rw [← List.flatMap_append, List.take_append_drop]
  rw [this, List.length_append]
  omega
def stN (brs : List (List Itm)) (n : Nat) : List Nat := (List.range n).map fun j => (plA (brs.take j)).length
theorem stN_succ (brs : List (List Itm)) (n : Nat) : stN brs (n + 1) = stN brs n ++ [(plA (brs.take n)).length] := by
  unfold stN
  rw [List.range_succ, List.map_append]
  rfl
theorem ok_places_of (T : TX K mg) : FnOk P w K mg base CX0 1 T.a_places_of T.fd_places_of ["branches"] sp_places_of := by
  refine T.F_places_of.ok sc_places_of (fun vs H Q E h => ?_) (fun cdv A outer s0 H vs Q E hr h => ?_)
  · obtain ⟨b, bas, brs, rfl, _⟩ := h
    rfl
  · obtain ⟨b, bas, brs, rfl, ba, ok, hp, hb8, q⟩ := h
    refine ⟨_, (pss_cons (ps_set (i := 1) sc_places_of.nd rfl (Or.inl rfl) (pe_lst pa_nil))
      (pss_cons (ps_set (i := 2) sc_places_of.nd rfl (Or.inl rfl) (pe_lst pa_nil))
      (pss_cons (ps_for PassesOwn.never rfl (pi_listK K rfl (pv 0)) (pg_name (i := 3) sc_places_of.nd rfl (Or.inl rfl))
        (pss_cons (ps_expr (pe_bmK K rfl PySem.F.plainAttrs_list PySem.F.slot_list_append PySem.F.type_list_append mt_append (pv 2) (pa_cons (pe_callB (call_lenK K rfl) (by rfl) T.m_len (by decide +kernel) (pa_cons (pv 1) pa_nil)) pa_nil)))
          (pss_cons (ps_for PassesOwn.never rfl (pi_listK K rfl (pv 3)) (pg_tupK (n := 2) K rfl (by rfl) (pgs_cons (pg_name (i := 4) sc_places_of.nd rfl (Or.inl rfl)) (pgs_cons (pg_name (i := 5) sc_places_of.nd rfl (Or.inl rfl)) pgs_nil)))
            (C8.pss_cut (ps_if (pt_cmpR op_ne (pv 5) pe_str (nomark _))
                (pss_one (ps_expr (pe_bmK K rfl PySem.F.plainAttrs_list PySem.F.slot_list_append PySem.F.type_list_append mt_append (pv 1) (pa_cons (pe_tup (pa_cons (pv 4) (pa_cons pe_bl pa_nil))) pa_nil))))
                pss_nil)
              (pss_one (ps_if (pt_cmpR op_ne (pv 5) pe_str (nomark _))
                (pss_one (ps_expr (pe_bmK K rfl PySem.F.plainAttrs_list PySem.F.slot_list_append PySem.F.type_list_append mt_append (pv 1) (pa_cons (pe_tup (pa_cons (pv 4) (pa_cons pe_bl pa_nil))) pa_nil))))
                pss_nil))))
          (pss_one (ps_expr (pe_bmK K rfl PySem.F.plainAttrs_list PySem.F.slot_list_append PySem.F.type_list_append mt_append (pv 1) (pa_cons (pe_tup (pa_cons pe_str (pa_cons pe_bl pa_nil))) pa_nil)))))))
      (pss_one (ps_ret (pe_tup (pa_cons (pv 1) (pa_cons (pv 2) pa_nil)))))))), ?_⟩
    have ss : (Str.ofString "*" : Str) = tJ [42] := by decide +kernel
    have bl := ba.2.1
    refine ⟨by show 0 ≤ sizeLine; decide, fun l nl => ⟨by show 0 ≤ sizeLine; decide, fun st nst => ?_⟩⟩
    have s1 := same_new (o := .lst []) nl
    have s2 := same_new (o := .lst []) nst
    have el0 : (upd H l (.lst [])) l = some (.lst []) := upd_same
    have el : (upd (upd H l (.lst [])) st (.lst [])) l = some (.lst (vr [])) := s2 _ _ el0
    have est : (upd (upd H l (.lst [])) st (.lst [])) st = some (.lst (vi [])) := upd_same
    have ls : l ≠ st := ne_of_none el0 nst
    have fst : H st = none := s1.free nst
    have sm0 := s1.trans s2
    generalize upd (upd H l (.lst [])) st (.lst []) = H1 at sm0 el est
    have bn : b ≠ l := ne_of_none ba.1 nl
    refine ⟨.ref b, rfl, b, rfl, ⟨_, .inl (.inl (sm0 _ _ ba.1))⟩, ?_⟩
    refine for_it (walk_list (K := K) (a := b) (xs := vr bas)) (fun j σ H' => (Same H H' ∧ (∃ as, PlsAt H' l as (plA (brs.take j))) ∧ H' st = some (.lst (vi (stN brs j)))) ∧ ∃ y3 y4 y5, σ = [some (.ref b), some (.ref l), some (.ref st), y3, y4, y5]) ⟨⟨sm0, ⟨[], el, rfl, fun i a q x => by simp at x⟩, est⟩, none, none, none, rfl⟩ (fun j σ H' _ hW => .inl (.inl (hW.1.1 _ _ ba.1))) (fun j x σ H2 H2' hj hW hY => ?_) (fun σ H2 hW => ?_)
    · obtain ⟨⟨s3, ⟨as, pa⟩, es⟩, y3, y4, y5, rfl⟩ := hW
      obtain ⟨rfl, hx⟩ := hY
      rw [List.length_map] at hj
      have haj := List.getElem?_eq_getElem hj
      rw [List.getElem?_map, haj] at hx
      cases hx
      have hbj := List.getElem?_eq_getElem (l := brs) (i := j) (by omega)
      obtain ⟨bs, ia⟩ := ba.2.2 j _ _ haj hbj
      have okb := ok _ (List.getElem_mem (l := brs) (n := j) (by omega))
      generalize brs[j]'(by omega) = br at hbj ia okb
      generalize bas[j] = ab at haj ia
      have pre := plA_pre brs (j + 1)
      rw [plA_take hbj, List.length_append, plB_len] at pre
      have lpa : (vr as).length = (plA (brs.take j)).length := by rw [List.length_map]; exact pa.2.1
      have lst_ : (stN brs j).length = j := by unfold stN; rw [List.length_map, List.length_range]
      -- starts.append(len(places))
      refine ⟨.ref st, rfl, .inl ⟨rfl, _, .inl (.inl es)⟩, .ref l, rfl, l, _, rfl, .inl (.inl (.inl pa.1)), st, _, _, rfl, rfl, es, by rw [List.length_map, lst_]; exact fit6 (by omega), ?_⟩
      have s4 : Same H (upd H2' st (.lst (vi (stN brs j) ++ [.int ((vr as).length : Int)]))) := fun b' o eb => by
        rw [upd_ne (ne_of_none eb fst)]
        exact s3 _ _ eb
      have pa4 := pa.put (ys := vi (stN brs j) ++ [.int ((vr as).length : Int)]) es ls
      have es4 : (upd H2' st (.lst (vi (stN brs j) ++ [.int ((vr as).length : Int)]))) st = some (.lst (vi (stN brs (j + 1)))) := by
        rw [upd_same, lpa, stN_succ, vi_snoc]
      generalize upd H2' st (.lst (vi (stN brs j) ++ [.int ((vr as).length : Int)])) = H3 at s4 pa4 es4
      have ia4 := ia.same s4
      -- for signs, mark in items
      refine ⟨.ref ab, rfl, ab, rfl, ⟨_, .inl (.inl ia4.1)⟩, ?_⟩
      refine for_it (walk_list (K := K) (a := ab) (xs := vr bs)) (fun i σ H' => (Same H H' ∧ (∃ as, PlsAt H' l as (plA (brs.take j) ++ (br.take i).flatMap plI)) ∧ H' st = some (.lst (vi (stN brs (j + 1))))) ∧ ∃ y4 y5, σ = [some (.ref b), some (.ref l), some (.ref st), some (.ref ab), y4, y5]) ⟨⟨s4, ⟨as, by rw [List.take_zero, List.flatMap_nil, List.append_nil]; exact pa4⟩, es4⟩, y4, y5, rfl⟩ (fun i σ H' _ hW => .inl (.inl (ia.same hW.1.1).1)) (fun i x σ H4 H4' hi hW hY => ?_) (fun σ H4 hW => ?_)
      · obtain ⟨⟨s5, ⟨as5, pa5⟩, es5⟩, y4, y5, rfl⟩ := hW
        obtain ⟨rfl, hx⟩ := hY
        rw [List.length_map] at hi
        have hai := List.getElem?_eq_getElem hi
        rw [List.getElem?_map, hai] at hx
        cases hx
        have lbs := ia.2.1
        have hii := List.getElem?_eq_getElem (l := br) (i := i) (by omega)
        have ei := s5 _ _ (ia.2.2 i _ _ hai hii)
        have oki := okb _ (List.getElem_mem (l := br) (n := i) (by omega))
        generalize br[i]'(by omega) = it at hii ei oki
        generalize bs[i] = ti at hai ei
        have pre2 := plI_pre br (i + 1)
        rw [take_snoc hii, List.flatMap_append, List.length_append] at pre2
        have e1 : List.flatMap plI [it] = plI it := by simp
        rw [e1] at pre2
        have nm : (br.take (i + 1)).flatMap plI = (br.take i).flatMap plI ++ plI it := by rw [take_snoc hii, List.flatMap_append, e1]
        have few : as5.length ≤ 100000 := by
          rw [pa5.2.1, List.length_append]
          omega
        refine ⟨ti, _, rfl, .inl (.inl ei), rfl, .str (tJ it.s), _, rfl, .str (tJ (mkI it.m)), [], rfl, rfl, ?_⟩
        refine ⟨fun σ' H' => (Same H H' ∧ (∃ as, PlsAt H' l as (plA (brs.take j) ++ (br.take i).flatMap plI ++ if it.m = 1 then [] else [(it.s, false)])) ∧ H' st = some (.lst (vi (stN brs (j + 1))))) ∧ σ' = [some (.ref b), some (.ref l), some (.ref st), some (.ref ab), some (.str (tJ it.s)), some (.str (tJ (mkI it.m)))], ?_, fun σ' H5 hM => ?_⟩
        · have t1 : V.bl (!decide (V.str (tJ (mkI it.m)) = V.str (Str.ofString "*"))) = V.bl (!decide (it.m = 1)) := by
            rw [ss, tJ_eq]
            congr 2
            refine decide_eq_decide.mpr ?_
            have := oki.1
            unfold mkI
            split
            · exact ⟨fun z => (nomatch z), fun z => by omega⟩
            · split
              · exact ⟨fun _ => ‹_›, fun _ => rfl⟩
              · exact ⟨fun z => by simp at z, fun z => by omega⟩
          refine ⟨.str (tJ (mkI it.m)), rfl, rfl, _, t1, ite2 (fun y => ?_) (fun y => ?_)⟩
          · have m1 : ¬ it.m = 1 := fun z => by rw [z] at y; exact nomatch y
            refine ⟨.ref l, rfl, .inl ⟨rfl, _, .inl (.inl pa5.1)⟩, .str (tJ it.s), rfl, by show 2 ≤ sizeLine; decide, fun t nt => ?_⟩
            have s6 := same_new (o := .tup [V.str (tJ it.s), V.bl false]) nt
            refine ⟨l, _, _, rfl, rfl, s6 _ _ pa5.1, by rw [List.length_map]; exact fit6 few, ⟨fun b' o eb => ?_, ⟨as5 ++ [t], ?_⟩, ?_⟩, rfl⟩
            · rw [upd_ne (ne_of_none eb nl)]
              exact s6 _ _ (s5 _ _ eb)
            · rw [if_neg m1]
              exact pa5.snoc nt (it.s, false)
            · rw [upd_ne ls.symm]
              exact s6 _ _ es5
          · have m1 : it.m = 1 := Decidable.byContradiction fun z => y (by rw [decide_eq_false z]; rfl)
            refine ⟨⟨s5, ⟨as5, ?_⟩, es5⟩, rfl⟩
            rw [if_pos m1, List.append_nil]
            exact pa5
        · obtain ⟨⟨s7, ⟨as7, pa7⟩, es7⟩, rfl⟩ := hM
          have few7 : as7.length ≤ 100000 := by
            rw [pa7.2.1, List.length_append, List.length_append]
            have : (if it.m = 1 then ([] : List Plc) else [(it.s, false)]).length ≤ 1 := by split <;> simp
            omega
          have t1 : V.bl (!decide (V.str (tJ (mkI it.m)) = V.str (Str.ofString ""))) = V.bl (!decide (it.m = 0)) := by
            rw [s_none, tJ_eq]
            congr 2
            refine decide_eq_decide.mpr ?_
            unfold mkI
            split
            · exact ⟨fun _ => ‹_›, fun _ => rfl⟩
            · split
              · exact ⟨fun z => (nomatch z), fun z => absurd z ‹_›⟩
              · exact ⟨fun z => (nomatch z), fun z => absurd z ‹_›⟩
          have next : ∀ H6, Same H H6 → (∃ as, PlsAt H6 l as (plA (brs.take j) ++ (br.take i).flatMap plI ++ (if it.m = 1 then [] else [(it.s, false)]) ++ if it.m = 0 then [] else [(it.s, true)])) → H6 st = some (.lst (vi (stN brs (j + 1)))) → (Same H H6 ∧ (∃ as, PlsAt H6 l as (plA (brs.take j) ++ (br.take (i + 1)).flatMap plI)) ∧ H6 st = some (.lst (vi (stN brs (j + 1))))) ∧ ∃ y4 y5, [some (V.ref b), some (.ref l), some (.ref st), some (.ref ab), some (.str (tJ it.s)), some (.str (tJ (mkI it.m)))] = [some (.ref b), some (.ref l), some (.ref st), some (.ref ab), y4, y5] := fun H6 a b' c => ⟨⟨a, by
            obtain ⟨as, z⟩ := b'
            refine ⟨as, ?_⟩
            rw [nm]
            unfold plI
            rw [← List.append_assoc, ← List.append_assoc]
            exact z, c⟩, _, _, rfl⟩
          refine ⟨.str (tJ (mkI it.m)), rfl, rfl, _, t1, ite2 (fun y => ?_) (fun y => ?_)⟩
          · have m0 : ¬ it.m = 0 := fun z => by rw [z] at y; exact nomatch y
            refine ⟨.ref l, rfl, .inl ⟨rfl, _, .inl (.inl pa7.1)⟩, .str (tJ it.s), rfl, by show 2 ≤ sizeLine; decide, fun t nt => ?_⟩
            have s8 := same_new (o := .tup [V.str (tJ it.s), V.bl true]) nt
            refine ⟨l, _, _, rfl, rfl, s8 _ _ pa7.1, by rw [List.length_map]; exact fit6 few7, next _ (fun b' o eb => ?_) ⟨as7 ++ [t], ?_⟩ ?_⟩
            · rw [upd_ne (ne_of_none eb nl)]
              exact s8 _ _ (s7 _ _ eb)
            · rw [if_neg m0]
              exact pa7.snoc nt (it.s, true)
            · rw [upd_ne ls.symm]
              exact s8 _ _ es7
          · have m0 : it.m = 0 := Decidable.byContradiction fun z => y (by rw [decide_eq_false z]; rfl)
            refine next _ s7 ⟨as7, ?_⟩ es7
            rw [if_pos m0, List.append_nil]
            exact pa7
      · obtain ⟨⟨s5, ⟨as5, pa5⟩, es5⟩, y4, y5, rfl⟩ := hW
        rw [List.length_map, ia.2.1, List.take_of_length_le (Nat.le_refl _)] at pa5
        have few : as5.length ≤ 100000 := by
          rw [pa5.2.1, List.length_append]
          omega
        refine ⟨.ref l, rfl, .inl ⟨rfl, _, .inl (.inl pa5.1)⟩, by show 2 ≤ sizeLine; decide, fun t nt => ?_⟩
        have s6 := same_new (o := .tup [V.str (Str.ofString ""), V.bl false]) nt
        refine ⟨l, _, _, rfl, rfl, s6 _ _ pa5.1, by rw [List.length_map]; exact fit6 few, ⟨fun b' o eb => ?_, ⟨as5 ++ [t], ?_⟩, ?_⟩, some (.ref ab), y4, y5, rfl⟩
        · rw [upd_ne (ne_of_none eb nl)]
          exact s6 _ _ (s5 _ _ eb)
        · rw [plA_take hbj]
          unfold plB
          rw [← List.append_assoc, s_none]
          exact pa5.snoc nt ([], false)
        · rw [upd_ne ls.symm]
          exact s6 _ _ es5
    · obtain ⟨⟨s3, ⟨as, pa⟩, es⟩, y3, y4, y5, rfl⟩ := hW
      rw [List.length_map, bl] at pa es
      rw [List.take_of_length_le (Nat.le_refl _)] at pa
      refine ⟨.ref l, rfl, .ref st, rfl, by show 2 ≤ sizeLine; decide, fun p np => ?_⟩
      have s6 := same_new (o := .tup [V.ref l, V.ref st]) np
      exact q _ p l st as (s3.trans s6) upd_same (pa.same s6) (s6 _ _ es)
end
end LH

namespace LH
open PySem PySem.Spec PyProof.Rows L2 NdefX LamX
/-! ### let_on, read -/
def uad (ks : List Nat) (q : Nat) : List Nat := if q ∈ ks then ks else ks ++ [q]
theorem mem_uad {ks : List Nat} {q x : Nat} : x ∈ uad ks q ↔ x ∈ ks ∨ x = q := by
  unfold uad
  split
  · exact ⟨.inl, fun h => h.elim id fun e => e ▸ ‹_›⟩
  · rw [List.mem_append, List.mem_singleton]
theorem nd_uad {ks : List Nat} {q : Nat} (h : ks.Nodup) : (uad ks q).Nodup := by
  unfold uad
  split
  · exact h
  · rename_i n
    rw [List.nodup_append]
    exact ⟨h, by simp, fun a ha b hb e => n (by rw [← List.mem_singleton.mp hb, ← e]; exact ha)⟩
theorem putK_uad (ks : List Nat) (q : Nat) : putK (dk ks) (Sum.inl (q : Int) : Key) (.bl true) = dk (uad ks q) := by
  unfold uad
  split
  · exact putK_dk_in ‹_›
  · exact putK_dk ‹_›
theorem uad_len (ks : List Nat) (q : Nat) : (uad ks q).length ≤ ks.length + 1 := by
  unfold uad
  split
  · omega
  · rw [List.length_append]; exact Nat.le_refl _
theorem sort_clo {ps : List Plc} {ns ks : List Nat} {ys : List Int} (nd : ks.Nodup) (hm : ∀ q, q ∈ ks ↔ q ∈ cloK ps ns) (pm : ys.Perm (ks.map fun n : Nat => (n : Int))) (pw : ys.Pairwise (· ≤ ·)) : ys = (cloK ps ns).map fun n : Nat => (n : Int) := by
  have ndc : (cloK ps ns).Nodup := List.nodup_range.filter _
  have p2 : ks.Perm (cloK ps ns) := (List.perm_ext_iff_of_nodup nd ndc).mpr hm
  have p3 := pm.trans (p2.map fun n : Nat => (n : Int))
  refine List.Perm.eq_of_pairwise (le := fun a b : Int => a ≤ b) (fun a b _ _ h1 h2 => by omega) pw ?_ p3
  rw [List.pairwise_map]
  have : (cloK ps ns).Pairwise (· < ·) := List.pairwise_lt_range.filter _
  exact this.imp fun h => by omega
theorem vr_gJ {as : List Addr} {i : Nat} {a : Addr} (h : as[i]? = some a) : (vr as)[i]? = some (.ref a) := by
  rw [List.getElem?_map, h]
  rfl
theorem cloK_len (ps : List Plc) (ns : List Nat) : (cloK ps ns).length ≤ ps.length := by
  have := List.length_filter_le (fun q => decide (∃ t ∈ ns, Lnk ps t q)) (List.range ps.length)
  rwa [List.length_range] at this
section
variable {P : Program} {w : World} {K : PySem.W.Frag} {mg : Str → Option Value} {base : Heap}
def sp_let_on : Sp := fun vs H Q _ => ∃ (pl nl : Addr) (as : List Addr) (ps : List Plc) (ns : List Nat), vs = [.ref pl, .ref nl] ∧ PlsAt H pl as ps ∧ PlOk ps ∧ ps.length < 64 ∧ H nl = some (.lst (vi ns)) ∧ ns.length ≤ 10000 ∧ (∀ n ∈ ns, n < ps.length) ∧
  ∀ H' p, Same H H' → H p = none → H' p = some (.tup (vi (cloK ps ns))) → Q (.ref p) H'
theorem ok_let_on (T : TX K mg) : FnOk P w K mg base CX0 1 T.a_let_on T.fd_let_on ["places", "numbers"] sp_let_on := by
  refine T.F_let_on.ok sc_let_on (fun vs H Q E h => ?_) (fun cdv A outer s0 H vs Q E hr h => ?_)
  · obtain ⟨pl, nl, as, ps, ns, rfl, _⟩ := h
    rfl
  · obtain ⟨pl, nl, as, ps, ns, rfl, pa, po, h64, hn, hnl, hns, q⟩ := h
    refine ⟨_, (pss_cons (ps_set (i := 2) sc_let_on.nd rfl (Or.inl rfl) pe_dnewK)
      (pss_cons (ps_for PassesOwn.never rfl (pi_listK K rfl (pv 1)) (pg_name (i := 3) sc_let_on.nd rfl (Or.inl rfl))
        (pss_cons (ps_set (i := 4) sc_let_on.nd rfl (Or.inl rfl) (pv 3))
          (pss_cons (ps_dput (hu_of hr) (pv 2) (pv 4) pe_bl rfl)
          (pss_one (ps_while PassesOwn.never (pt_val (pe_ix (ix_tupK K rfl) (pe_ix (ix_listK K rfl) (pv 0) (pv 4) (fun _ _ => rfl)) pe_int (fun _ _ => rfl)))
            (pss_cons (ps_aug (i := 4) sc_let_on.nd rfl (Or.inl rfl) pe_int ip_add)
              (pss_one (ps_dput (hu_of hr) (pv 2) (pv 4) pe_bl rfl))))))))
      (pss_one (ps_ret (pe_callTy (call_tupleK K rfl) (by rfl) T.m_tuple (by decide +kernel) (pa_cons (pe_callB (call_sortedDI rfl) (by rfl) T.m_sorted (by decide +kernel) (pa_cons (pv 2) pa_nil)) pa_nil)))))), ?_⟩
    refine fun d nd => ?_
    have s1 := same_new (o := .dK []) nd
    have ed : (upd H d (.dK [])) d = some (.dK (dk [])) := upd_same
    generalize upd H d (.dK []) = H1 at s1 ed
    have al := pa.2.1
    refine ⟨.ref nl, rfl, nl, rfl, ⟨_, .inl (.inl (s1 _ _ hn))⟩, ?_⟩
    refine for_it (walk_list (K := K) (a := nl) (xs := vi ns)) (fun i σ H' => (Same H H' ∧ ∃ ks : List Nat, H' d = some (.dK (dk ks)) ∧ ks.Nodup ∧ ∀ q, q ∈ ks ↔ q < ps.length ∧ ∃ t ∈ ns.take i, Lnk ps t q) ∧ ∃ y3 y4, σ = [some (.ref pl), some (.ref nl), some (.ref d), y3, y4]) ⟨⟨s1, [], ed, List.nodup_nil, fun q => ⟨fun h => (nomatch h), fun h => by
      obtain ⟨_, t, ht, _⟩ := h
      rw [List.take_zero] at ht
      exact nomatch ht⟩⟩, none, none, rfl⟩ (fun i σ H' _ hW => .inl (.inl (hW.1.1 _ _ hn))) (fun i x σ H2 H2' hi hW hY => ?_) (fun σ H2 hW => ?_)
    · obtain ⟨⟨s2, ks, ek, ndk, mk⟩, y3, y4, rfl⟩ := hW
      obtain ⟨rfl, hx⟩ := hY
      obtain ⟨n, hn', rfl⟩ := int_at hx
      have hnp := hns n (List.mem_of_getElem? hn')
      have small : ∀ l : List Nat, l.Nodup → (∀ q ∈ l, q < ps.length) → l.length ≤ 64 := fun l nd' h => by
        have := len_le_of_sub nd' (ys := List.range ps.length) fun x hx => List.mem_range.mpr (h x hx)
        rw [List.length_range] at this
        omega
      have fitd : ∀ l : List Nat, l.Nodup → (∀ q ∈ l, q < ps.length) → (dk l).length < sizeLine := fun l nd' h => by
        rw [List.length_map]
        exact fit6 (by have := small l nd' h; omega)
      have ltk : ∀ q ∈ ks, q < ps.length := fun q hq => ((mk q).mp hq).1
      refine ⟨.int (n : Int), rfl, .ref d, rfl, .int (n : Int), rfl, d, _, rfl, DPut.k (k := Sum.inl (n : Int)) ek (fitd ks ndk ltk), ?_⟩
      rw [putK_uad]
      have s3 : Same H (upd H2' d (.dK (dk (uad ks n)))) := fun b o eb => by
        rw [upd_ne (ne_of_none eb nd)]
        exact s2 _ _ eb
      have ed3 : (upd H2' d (.dK (dk (uad ks n)))) d = some (.dK (dk (uad ks n))) := upd_same
      generalize upd H2' d (.dK (dk (uad ks n))) = H3 at s3 ed3
      refine ⟨fun m σ H' => ∃ (at_ : Nat) (ks' : List Nat), m + at_ = ps.length ∧ n ≤ at_ ∧ at_ < ps.length ∧ (∀ r, n ≤ r → r < at_ → stP ps r = true) ∧ Same H H' ∧ H' d = some (.dK (dk ks')) ∧ ks'.Nodup ∧ (∀ q, q ∈ ks' ↔ q ∈ ks ∨ (n ≤ q ∧ q ≤ at_)) ∧ σ = [some (.ref pl), some (.ref nl), some (.ref d), some (.int (n : Int)), some (.int (at_ : Int))],
        ⟨ps.length - n, n, uad ks n, by omega, Nat.le_refl _, hnp, fun r h1 h2 => by omega, s3, ed3, nd_uad ndk, fun q => by
          rw [mem_uad]
          exact ⟨fun h => h.imp id fun e => ⟨by omega, by omega⟩, fun h => h.imp id fun e => by omega⟩, rfl⟩, fun m σ H4 hW => ?_⟩
      obtain ⟨at_, ks', hm, h1, h2, h3, s4, ed4, nd4, mk4, rfl⟩ := hW
      have haa := List.getElem?_eq_getElem (l := as) (i := at_) (by omega)
      have hpp := plA_get h2
      have et := s4 _ _ (pa.2.2 _ _ _ haa hpp)
      have lt4 : ∀ q ∈ ks', q < ps.length := fun q hq => by
        rcases (mk4 q).mp hq with h | h
        · exact ltk q h
        · omega
      refine ⟨.ref pl, rfl, .int (at_ : Int), rfl, pl, _, (at_ : Int), .ref as[at_], rfl, rfl, .inl (.inl (s4 _ _ pa.1)), atI_nat (vr_gJ haa), as[at_], _, 1, .bl (stP ps at_), rfl, rfl, .inl (.inl et), rfl, _, rfl, ?_⟩
      cases hs : stP ps at_ with
      | true =>
        have nx := po.last at_ hs
        refine iteT ⟨fun σ' H' => Same H H' ∧ H' d = some (.dK (dk (uad ks' (at_ + 1)))) ∧ σ' = [some (.ref pl), some (.ref nl), some (.ref d), some (.int (n : Int)), some (.int ((at_ + 1 : Nat) : Int))], fun σ' H' hN => ?_, ?_⟩
        · obtain ⟨r1, r2, rfl⟩ := hN
          refine ⟨m - 1, by omega, at_ + 1, uad ks' (at_ + 1), by omega, by omega, nx, fun r a1 a2 => ?_, r1, r2, nd_uad nd4, fun q => ?_, rfl⟩
          · by_cases e : r = at_
            · rw [e]; exact hs
            · exact h3 r a1 (by omega)
          · rw [mem_uad, mk4]
            constructor
            · rintro ((h | h) | h)
              · exact .inl h
              · exact .inr ⟨h.1, by omega⟩
              · exact .inr ⟨by omega, by omega⟩
            · rintro (h | h)
              · exact .inl (.inl h)
              · by_cases e : q = at_ + 1
                · exact .inr e
                · exact .inl (.inr ⟨h.1, by omega⟩)
        have e1 : (at_ : Int) + 1 = ((at_ + 1 : Nat) : Int) := by omega
        refine ⟨.int (at_ : Int), rfl, _, _, rfl, rfl, ?_⟩
        refine ⟨.ref d, rfl, .int ((at_ : Int) + 1), rfl, d, upd H4 d (.dK (putK (dk ks') (Sum.inl ((at_ + 1 : Nat) : Int)) (.bl true))), rfl, ?_, ?_⟩
        · rw [e1]
          exact DPut.k (k := Sum.inl ((at_ + 1 : Nat) : Int)) ed4 (fitd ks' nd4 lt4)
        rw [putK_uad]
        refine ⟨fun b o eb => ?_, upd_same, rfl⟩
        rw [upd_ne (ne_of_none eb nd)]
        exact s4 _ _ eb
      | false =>
        refine iteF ⟨⟨s4, ks', ed4, nd4, fun q => ?_⟩, _, _, rfl⟩
        rw [mk4, mk, take_snoc hn']
        constructor
        · rintro (⟨g1, t, g2, g3⟩ | ⟨g1, g2⟩)
          · exact ⟨g1, t, List.mem_append_left _ g2, g3⟩
          · exact ⟨by omega, n, List.mem_append_right _ (List.mem_singleton.mpr rfl), g1, fun r a1 a2 => h3 r a2 (by omega)⟩
        · rintro ⟨g1, t, g2, g3⟩
          rcases List.mem_append.mp g2 with g2 | g2
          · exact .inl ⟨g1, t, g2, g3⟩
          · obtain rfl := List.mem_singleton.mp g2
            refine .inr ⟨g3.1, ?_⟩
            refine Nat.le_of_not_lt fun z => ?_
            rw [g3.2 at_ z h1] at hs
            exact nomatch hs
    · obtain ⟨⟨s2, ks, ek, ndk, mk⟩, y3, y4, rfl⟩ := hW
      rw [List.length_map, List.take_of_length_le (Nat.le_refl _)] at mk
      have lk : ks.length < 64 := by
        have := len_le_of_sub ndk (ys := List.range ps.length) fun x hx => List.mem_range.mpr ((mk x).mp hx).1
        rw [List.length_range] at this
        omega
      refine ⟨.ref d, rfl, d, dk ks, ks.map fun n : Nat => (n : Int), rfl, .inl ek, by rw [List.map_map, List.map_map]; rfl, by rw [List.length_map]; exact lk, fun ys p pm pw np => ?_⟩
      have ey := sort_clo ndk (fun q => (mk q).trans mem_cloK.symm) pm pw
      have s3 := same_new (o := .lst (ys.map V.int)) np
      have ep : (upd H2 p (.lst (ys.map V.int))) p = some (.lst (vi (cloK ps ns))) := by
        rw [upd_same, ey, List.map_map]
        rfl
      generalize upd H2 p (.lst (ys.map V.int)) = H3 at s3 ep
      refine ⟨p, _, rfl, .inl ⟨.inl (.inl ep), fun p2 np2 => ?_⟩⟩
      exact q _ p2 ((s2.trans s3).trans (same_new np2)) ((s2.trans s3).free np2) upd_same
theorem nxtK_snoc (ps : List Plc) (l : List Nat) (q c : Nat) : nxtK ps (l ++ [q]) c = nxtK ps l c ++ if c ∈ sgP ps q then [tgtP ps q] else [] := by
  unfold nxtK
  rw [List.filter_append, List.map_append]
  congr 1
  by_cases h : c ∈ sgP ps q
  · rw [if_pos h, List.filter_cons_of_pos (by exact decide_eq_true h)]
    rfl
  · rw [if_neg h, List.filter_cons_of_neg (by rw [decide_eq_true_iff]; exact h)]
    rfl
theorem nxtK_len (ps : List Plc) (l : List Nat) (c : Nat) : (nxtK ps l c).length ≤ l.length := by
  unfold nxtK
  rw [List.length_map]
  exact List.length_filter_le _ _
theorem nxtK_lt {ps : List Plc} (po : PlOk ps) {l : List Nat} {c : Nat} (hl : ∀ q ∈ l, q < ps.length) : ∀ n ∈ nxtK ps l c, n < ps.length := fun n hn => by
  obtain ⟨q, hq, rfl⟩ := List.mem_map.mp hn
  obtain ⟨h1, h2⟩ := List.mem_filter.mp hq
  have := po.next q (fun z => by rw [z] at h2; simp at h2)
  unfold tgtP
  split
  · exact hl q h1
  · exact this
def sp_read : Sp := fun vs H Q _ => ∃ (pl hl : Addr) (as : List Addr) (ps : List Plc) (ks : List Nat) (c : Nat), vs = [.ref pl, .ref hl, .str (sg c)] ∧ PlsAt H pl as ps ∧ PlOk ps ∧ ps.length < 64 ∧ H hl = some (.tup (vi ks)) ∧ ks.length ≤ 10000 ∧ (∀ q ∈ ks, q < ps.length) ∧
  ∀ H' p, Same H H' → H p = none → H' p = some (.tup (vi (cloK ps (nxtK ps ks c)))) → Q (.ref p) H'
theorem ok_read (T : TX K mg) : FnOk P w K mg base CX0 2 T.a_read T.fd_read ["places", "held", "letter"] sp_read := by
  have G_let_on : FnOk P w K mg base CX0 1 T.a_let_on T.fd_let_on ["places", "numbers"] sp_let_on := ok_let_on T
  refine T.F_read.ok sc_read (fun vs H Q E h => ?_) (fun cdv A outer s0 H vs Q E hr h => ?_)
  · obtain ⟨pl, hl, as, ps, ks, c, rfl, _⟩ := h
    rfl
  · obtain ⟨pl, hl, as, ps, ks, c, rfl, pa, po, h64, hh, hkl, hks, q⟩ := h
    refine ⟨_, (pss_cons (ps_set (i := 3) sc_read.nd rfl (Or.inl rfl) (pe_lst pa_nil))
      (pss_cons (ps_for PassesOwn.never rfl (pi_tupK K rfl (pv 1)) (pg_name (i := 4) sc_read.nd rfl (Or.inl rfl))
        (pss_cons (ps_asg (pe_ix (ix_listK K rfl) (pv 0) (pv 4) (fun _ _ => rfl)) (pg_tupK (n := 2) K rfl (by rfl) (pgs_cons (pg_name (i := 5) sc_read.nd rfl (Or.inl rfl)) (pgs_cons (pg_name (i := 6) sc_read.nd rfl (Or.inl rfl)) pgs_nil))))
          (pss_one (ps_if (pt_cmpR op_in_sign (pv 2) (pv 5) (by rfl))
            (pss_one (ps_expr (pe_bmK K rfl PySem.F.plainAttrs_list PySem.F.slot_list_append PySem.F.type_list_append mt_append (pv 3) (pa_cons (pe_ifExp (pt_val (pv 6)) (pv 4) (pe_op op_add (pv 4) pe_int)) pa_nil))))
            pss_nil))))
      (pss_one (ps_ret (pe_call G_let_on (hr.mono (by decide)) (by rfl) T.g_let_on T.F_let_on.kp T.b_let_on .nil pass0 (pa_cons (pv 0) (pa_cons (pv 3) pa_nil))))))), ?_⟩
    have al := pa.2.1
    refine ⟨by show 0 ≤ sizeLine; decide, fun l nl => ?_⟩
    have s1 := same_new (o := .lst []) nl
    have el : (upd H l (.lst [])) l = some (.lst (vi [])) := upd_same
    generalize upd H l (.lst []) = H1 at s1 el
    refine ⟨.ref hl, rfl, hl, rfl, ⟨_, .inl (.inl (s1 _ _ hh))⟩, ?_⟩
    refine for_it (walk_tup (K := K) (a := hl) (xs := vi ks)) (fun i σ H' => (Same H H' ∧ H' l = some (.lst (vi (nxtK ps (ks.take i) c)))) ∧ ∃ y4 y5 y6, σ = [some (.ref pl), some (.ref hl), some (.str (sg c)), some (.ref l), y4, y5, y6]) ⟨⟨s1, el⟩, none, none, none, rfl⟩ (fun i σ H' _ hW => .inl (.inl (hW.1.1 _ _ hh))) (fun i x σ H2 H2' hi hW hY => ?_) (fun σ H2 hW => ?_)
    · obtain ⟨⟨s2, e2⟩, y4, y5, y6, rfl⟩ := hW
      obtain ⟨rfl, hx⟩ := hY
      obtain ⟨n, hn, rfl⟩ := int_at hx
      have hnp := hks n (List.mem_of_getElem? hn)
      have haa := List.getElem?_eq_getElem (l := as) (i := n) (by omega)
      have et := s2 _ _ (pa.2.2 _ _ _ haa (plA_get hnp))
      refine ⟨.ref pl, rfl, .int (n : Int), rfl, pl, _, (n : Int), .ref as[n], rfl, rfl, .inl (.inl (s2 _ _ pa.1)), atI_nat (vr_gJ haa), as[n], _, rfl, .inl (.inl et), rfl, .str (tJ (sgP ps n)), _, rfl, .bl (stP ps n), [], rfl, rfl, ?_⟩
      rw [take_snoc hn, nxtK_snoc]
      refine ⟨.str (sg c), rfl, .str (tJ (sgP ps n)), rfl, c, tJ (sgP ps n), rfl, rfl, _, rfl, ite2 (fun y => ?_) (fun y => ?_)⟩
      · have y : c ∈ sgP ps n := of_decide_eq_true y
        rw [if_pos y]
        have few := nxtK_len ps (ks.take i) c
        rw [List.length_take] at few
        have put : (Same H (upd H2' l (.lst (vi (nxtK ps (ks.take i) c) ++ [V.int (tgtP ps n : Int)]))) ∧ (upd H2' l (.lst (vi (nxtK ps (ks.take i) c) ++ [V.int (tgtP ps n : Int)]))) l = some (.lst (vi (nxtK ps (ks.take i) c ++ [tgtP ps n])))) := ⟨fun b o eb => by
          rw [upd_ne (ne_of_none eb nl)]
          exact s2 _ _ eb, by rw [upd_same, vi_snoc]⟩
        refine ⟨.ref l, rfl, .inl ⟨rfl, _, .inl (.inl e2)⟩, .bl (stP ps n), rfl, _, rfl, ?_⟩
        unfold tgtP at put ⊢
        cases hs : stP ps n with
        | true =>
          rw [hs, if_pos rfl] at put
          refine iteT ⟨.int (n : Int), rfl, l, _, _, rfl, rfl, e2, by rw [List.length_map]; exact fit6 (by omega), ?_⟩
          exact ⟨put, _, _, _, rfl⟩
        | false =>
          rw [hs, if_neg (by decide)] at put
          have e1 : (n : Int) + 1 = ((n + 1 : Nat) : Int) := by omega
          refine iteF ⟨.int (n : Int), rfl, _, _, rfl, rfl, l, _, _, rfl, rfl, e2, by rw [List.length_map]; exact fit6 (by omega), ?_⟩
          rw [← e1] at put
          exact ⟨put, _, _, _, rfl⟩
      · have y : c ∉ sgP ps n := fun z => y (decide_eq_true z)
        rw [if_neg y, List.append_nil]
        exact ⟨⟨s2, e2⟩, _, _, _, rfl⟩
    · obtain ⟨⟨s2, e2⟩, y4, y5, y6, rfl⟩ := hW
      rw [List.length_map, List.take_of_length_le (Nat.le_refl _)] at e2
      have := nxtK_len ps ks c
      exact ⟨.ref pl, rfl, .ref l, rfl, pl, l, as, ps, _, rfl, pa.same s2, po, h64, e2, by omega, nxtK_lt po hks, fun H3 p s3 np ep => q H3 p (s2.trans s3) (s2.free np) ep⟩
end
end LH

namespace LH
open PySem PySem.Spec PyProof.Rows L2 NdefX LamX LU
/-! ### machine_of -/
def kJ (ns : List Nat) : NestedKey := .tup (ns.map fun t => .num ((t : Nat) : Int))
theorem nvsJ {H : Hp} : ∀ l : List Nat, NVs H (l.map fun t => NestedKey.num ((t : Nat) : Int)) (vi l)
  | [] => .nil
  | _ :: r => .cons (.num _) (nvsJ r)
theorem nvJ {H : Hp} {p : Addr} {ns : List Nat} (h : H p = some (.tup (vi ns))) : NV H (kJ ns) (.ref p) := .tup h (nvsJ ns)
theorem nvsJ_inv {H : Hp} : ∀ {l : List Nat} {vs : List V}, NVs H (l.map fun t => NestedKey.num ((t : Nat) : Int)) vs → vs = vi l
  | [], _, h => by cases h; rfl
  | a :: r, _, h => by
    cases h with
    | cons h t =>
      cases h
      rw [nvsJ_inv t]
      rfl
theorem nvJ_inv {H : Hp} {ns : List Nat} {v : V} (h : NV H (kJ ns) v) : ∃ p, v = .ref p ∧ H p = some (.tup (vi ns)) := by
  cases h with
  | tup e r => exact ⟨_, rfl, by rw [e, nvsJ_inv r]⟩
theorem numsJ_inj : ∀ {a b : List Nat}, (a.map fun t => NestedKey.num ((t : Nat) : Int)) = b.map (fun t => NestedKey.num ((t : Nat) : Int)) → a = b
  | [], [], _ => rfl
  | [], _ :: _, h => nomatch h
  | _ :: _, [], h => nomatch h
  | x :: r, y :: s, h => by
    rw [List.map_cons, List.map_cons] at h
    injection h with h1 h2
    injection h1 with h3
    rw [numsJ_inj h2, show x = y by omega]
theorem kJ_inj {a b : List Nat} (h : kJ a = kJ b) : a = b := numsJ_inj (NestedKey.tup.inj h)
theorem kJ_depth (ns : List Nat) : (kJ ns).depth ≤ 8 := by
  have : ∀ l : List Nat, NestedKey.depthAll (l.map fun t => NestedKey.num ((t : Nat) : Int)) = 0 := by
    intro l
    induction l with
    | nil => rfl
    | cons a r ih =>
      rw [List.map_cons]
      show max 0 (NestedKey.depthAll (r.map fun t => NestedKey.num ((t : Nat) : Int))) = 0
      rw [ih]
      rfl
  show NestedKey.depthAll _ + 1 ≤ 8
  rw [this]
  decide
theorem plI_len (i : Itm) : (plI i).length ≤ 2 := by
  unfold plI
  split <;> split <;> simp
theorem plA_len (brs : List (List Itm)) : (plA brs).length ≤ 2 * manyI brs + brs.length := by
  unfold plA manyI
  induction brs with
  | nil => exact Nat.le_refl _
  | cons b r ih =>
    rw [List.flatMap_cons, List.length_append, plB_len, List.map_cons, List.sum_cons, List.length_cons]
    have : (b.flatMap plI).length ≤ 2 * b.length := by
      clear ih
      induction b with
      | nil => exact Nat.le_refl _
      | cons i b ih2 =>
        have := plI_len i
        rw [List.flatMap_cons, List.length_append, List.length_cons]
        omega
    omega
abbrev st_followM : Stmt := (defBody s_machine_of).getD 1 (.Pass ⟨0, 0, 0, 0⟩)
abbrev st_is_endM : Stmt := (defBody s_machine_of).getD 2 (.Pass ⟨0, 0, 0, 0⟩)
abbrev q_followM : Str := (("machine_of" : Str) ++ ".<locals>.") ++ "follow"
abbrev q_is_endM : Str := (("machine_of" : Str) ++ ".<locals>.") ++ "is_end"
abbrev nf_followM (cl : List (Str × Addr)) (c : Addr) : NF := NF.of st_followM "follow" q_followM cl c
abbrev nf_is_endM (cl : List (Str × Addr)) (c : Addr) : NF := NF.of st_is_endM "is_end" q_is_endM cl c
abbrev N_followM : List Str := ["held", "letters", "places", "letter"]
theorem nd_followM : N_followM.Nodup := by decide +kernel
abbrev N_is_endM : List Str := ["held", "places", "at"]
theorem nd_is_endM : N_is_endM.Nodup := by decide +kernel
section
variable {P : Program} {w : World} {K : PySem.W.Frag} {mg : Str → Option Value} {base : Heap}
def sp_followM : List (Option V) → Sp := fun ws vs H Q _ => ∃ (z : Str) (pl hl : Addr) (as : List Addr) (ps : List Plc) (ks : List Nat), ws = [some (.str z), some (.ref pl)] ∧ vs = [.ref hl] ∧ z.length ≤ 5 ∧ PlsAt H pl as ps ∧ PlOk ps ∧ ps.length < 64 ∧ H hl = some (.tup (vi ks)) ∧ ks.length ≤ 10000 ∧ (∀ q ∈ ks, q < ps.length) ∧
  ∀ H' b (us : List Addr), Same H H' → H b = none → H' b = some (.lst (vr us)) → us.length = z.length → (∀ (j c : Nat) (u : Addr), z.cps.toList[j]? = some c → us[j]? = some u → H' u = some (.tup (vi (cloK ps (nxtK ps ks c))))) → Q (.ref b) H'
theorem ok_followM (T : TX K mg) {f c : Addr} {cl : List (Str × Addr)} : NOk P w K mg base CX0 3 f (nf_followM cl c) ["held"] ["letters", "places"] sp_followM := by
  have G_read := ok_read (P := P) (w := w) (base := base) T
  refine nok_ofC (N := N_followM) (nscC_by (by kernel_rfl)) (fun doc pm ctv us hl => match us, hl with | [_], _ => rfl) (fun ws vs H Q E h => ?_) (fun A outer s H vs ws Q E hr hf hc hlen h => ?_)
  · obtain ⟨z, pl, hl, as, ps, ks, rfl, rfl, _⟩ := h
    rfl
  · obtain ⟨z, pl, hl, as, ps, ks, rfl, rfl, hz, pa, po, h64, hh, hkl, hks, q⟩ := h
    refine ⟨_, PSs.nox (pss_one (ps_ret (pe_lc (own := [("letter", 3)]) (g := gName 3) (tt := tYes) (by rfl) nd_followM (pi_str (pv 1)) (blkOk_by (own := [("letter", 3)]) (N := N_followM) (by kernel_rfl)) (fun _ _ _ _ _ => (pg_name (i := 3) nd_followM rfl (Or.inl rfl))) (fun _ _ _ _ _ => pts_nil) (fun _ _ _ _ _ => (pe_call G_read (hr.mono (by decide)) (by rfl) T.g_read T.F_read.kp T.b_read .nil pass0 (pa_cons (pv 2) (pa_cons (pv 0) (pa_cons (pv 3) pa_nil)))))))), ?_⟩
    refine ⟨.str z, rfl, z, rfl, fun D nD => ?_⟩
    refine lc_it walk_str (fun k H' => Same H H' ∧ ∃ us : List Addr, H' D = some (.lst (vr us)) ∧ us.length = k ∧ ∀ (j c : Nat) (u : Addr), z.cps.toList[j]? = some c → us[j]? = some u → H' u = some (.tup (vi (cloK ps (nxtK ps ks c))))) ⟨same_new nD, [], upd_same, rfl, fun j c v _ x => by simp at x⟩ (fun _ _ _ _ => trivial) (fun k y H1 H1' hk1 hW hY => ?_) (fun H1 hW => ?_)
    · obtain ⟨s1, us, d1, lu, cu⟩ := hW
      obtain ⟨rfl, c, hc, rfl⟩ := hY
      have hc' : z.cps.toList[k]? = some c := by
        rw [Array.getElem?_toList]
        exact hc
      have hkz : k < z.length := hk1
      refine ⟨rfl, lcyes ?_⟩
      refine ⟨.ref pl, rfl, .ref hl, rfl, .str (sg c), rfl, pl, hl, as, ps, ks, c, rfl, pa.same s1, po, h64, s1 _ _ hh, hkl, hks, fun H2 u s2 nu eu => ?_⟩
      have d2 := s2 _ _ d1
      refine ⟨vr us, d2, by rw [List.length_map]; exact fit6 (by omega), fun b o eb => ?_, us ++ [u], by rw [upd_same, vr_snoc], by rw [List.length_append, lu]; rfl, fun j c' v e1 e2 => ?_⟩
      · rw [upd_ne (ne_of_none eb nD)]
        exact s2 _ _ (s1 _ _ eb)
      · by_cases hj : j < us.length
        · rw [List.getElem?_append_left hj] at e2
          have := s2 _ _ (cu j c' v e1 e2)
          rw [upd_ne (fun z => by rw [z, d2] at this; cases this)]
          exact this
        · have hj2 := (List.getElem?_eq_some_iff.mp e2).1
          rw [List.length_append] at hj2
          have hj2 : j < us.length + 1 := hj2
          obtain rfl : j = us.length := by omega
          rw [List.getElem?_append_right (Nat.le_refl _), Nat.sub_self] at e2
          obtain rfl : u = v := Option.some.inj e2
          rw [lu, hc'] at e1
          obtain rfl : c = c' := Option.some.inj e1
          rw [upd_ne (fun z => by rw [z, d2] at eu; cases eu)]
          exact eu
    · obtain ⟨s1, us, d1, lu, cu⟩ := hW
      exact q _ D us s1 nD d1 lu cu
def endK (ps : List Plc) (ks : List Nat) : Bool := decide (∃ q ∈ ks, sgP ps q = [])
theorem any_endK (ps : List Plc) (ks : List Nat) : (ks.map fun q => decide (sgP ps q = [])).any id = endK ps ks := by
  unfold endK
  rw [Bool.eq_iff_iff, List.any_eq_true, decide_eq_true_iff]
  constructor
  · rintro ⟨b, hb, h⟩
    obtain ⟨q, hq, rfl⟩ := List.mem_map.mp hb
    exact ⟨q, hq, of_decide_eq_true h⟩
  · rintro ⟨q, hq, h⟩
    exact ⟨_, List.mem_map.mpr ⟨q, hq, rfl⟩, decide_eq_true h⟩
def sp_is_endM : List (Option V) → Sp := fun ws vs H Q _ => ∃ (pl hl : Addr) (as : List Addr) (ps : List Plc) (ks : List Nat), ws = [some (.ref pl)] ∧ vs = [.ref hl] ∧ PlsAt H pl as ps ∧ H hl = some (.tup (vi ks)) ∧ ks.length ≤ 10000 ∧ (∀ q ∈ ks, q < ps.length) ∧ ∀ H', Same H H' → Q (.bl (endK ps ks)) H'
theorem ok_is_endM (T : TX K mg) {f c : Addr} {cl : List (Str × Addr)} : NOk P w K mg base CX0 1 f (nf_is_endM cl c) ["held"] ["places"] sp_is_endM := by
  refine nok_of (N := N_is_endM) (nscope_by (by kernel_rfl)) (fun doc pm ctv us hl => match us, hl with | [_], _ => rfl) (fun ws vs H Q E h => ?_) (fun A outer s H vs ws Q E hr hf hc hlen h => ?_)
  · obtain ⟨pl, hl, as, ps, ks, rfl, rfl, _⟩ := h
    rfl
  · obtain ⟨pl, hl, as, ps, ks, rfl, rfl, pa, hh, hkl, hks, q⟩ := h
    refine ⟨_, PSs.nox (pss_one (ps_ret (pe_callB (cr_anyK K rfl rfl) (by rfl) T.m_any (by decide +kernel) (pa_cons (pe_lc (own := [("at", 2)]) (g := gName 2) (tt := tYes) (by rfl) nd_is_endM (pi_tupK K rfl (pv 0)) (blkOk_by (own := [("at", 2)]) (N := N_is_endM) (by kernel_rfl)) (fun _ _ _ _ _ => (pg_name (i := 2) nd_is_endM rfl (Or.inl rfl))) (fun _ _ _ _ _ => pts_nil) (fun _ _ _ _ _ => (pe_cmpR op_eq (pe_ix (ix_tupK K rfl) (pe_ix (ix_listK K rfl) (pv 1) (pv 2) (fun _ _ => rfl)) pe_int (fun _ _ => rfl)) pe_str (nomark _)))) pa_nil)))), ?_⟩
    have al := pa.2.1
    refine ⟨.ref hl, rfl, hl, rfl, ⟨_, .inl (.inl hh)⟩, fun D nD => ?_⟩
    refine lc_it (walk_tup (K := K) (a := hl) (xs := vi ks)) (fun i H' => Same H H' ∧ H' D = some (.lst (((ks.take i).map fun q => decide (sgP ps q = [])).map V.bl))) ⟨same_new nD, upd_same⟩ (fun i H' _ hW => .inl (.inl (hW.1 _ _ hh))) (fun i x H1 H1' hi hW hY => ?_) (fun H1 hW => ?_)
    · obtain ⟨s1, e1⟩ := hW
      obtain ⟨rfl, hx⟩ := hY
      obtain ⟨n, hn, rfl⟩ := int_at hx
      rw [List.length_map] at hi
      have hnp := hks n (List.mem_of_getElem? hn)
      have haa := List.getElem?_eq_getElem (l := as) (i := n) (by omega)
      have et := s1 _ _ (pa.2.2 _ _ _ haa (plA_get hnp))
      refine ⟨rfl, lcyes ⟨.ref pl, rfl, .int (n : Int), rfl, pl, _, (n : Int), .ref as[n], rfl, rfl, .inl (.inl (s1 _ _ pa.1)), atI_nat (vr_gJ haa), as[n], _, 0, .str (tJ (sgP ps n)), rfl, rfl, .inl (.inl et), rfl, rfl, _, e1, ?_, fun b o eb => ?_, ?_⟩⟩
      · rw [List.length_map, List.length_map, List.length_take]
        exact fit6 (by omega)
      · rw [upd_ne (ne_of_none eb nD)]
        exact s1 _ _ eb
      · rw [upd_same, take_snoc hn, List.map_append, List.map_append, s_none, tJ_eq]
        rfl
    · obtain ⟨s1, e1⟩ := hW
      rw [List.length_map, List.take_of_length_le (Nat.le_refl _)] at e1
      refine ⟨D, _, rfl, .inl (.inl e1), ?_⟩
      rw [any_endK]
      exact q _ s1
end
end LH

namespace LH
open PySem PySem.Spec PyProof.Rows L2 NdefX LamX LU
theorem free_followM : ∀ y ∈ (C8.fnScope st_followM).names, y.2 = .free → (defScope s_machine_of).names.lookup y.1 = some .cell ∨ (defScope s_machine_of).names.lookup y.1 = some .free := by decide +kernel
theorem free_is_endM : ∀ y ∈ (C8.fnScope st_is_endM).names, y.2 = .free → (defScope s_machine_of).names.lookup y.1 = some .cell ∨ (defScope s_machine_of).names.lookup y.1 = some .free := by decide +kernel
def nm_machine_of : Nat → Nat → Str := fun l _ => if l = lineOf st_followM then q_followM else q_is_endM
abbrev xM (P : Program) (w : World) (K : PySem.W.Frag) (mg : Str → Option Value) (base : Heap) (f c : Addr) (A : Around) (outer : List Env) (s : Shared) (H : Hp) (E : XK) : Cx := (cxOf CX0 P w K mg base N_machine_of "machine_of" (defScope s_machine_of) f (.ref c) A outer s H E).nox
theorem nvs_ofJ {H : Hp} : ∀ {ks : List NestedKey} {us : List V}, us.length = ks.length → (∀ (j : Nat) (k : NestedKey) (v : V), ks[j]? = some k → us[j]? = some v → NV H k v) → NVs H ks us
  | [], [], _, _ => .nil
  | [], _ :: _, h, _ => nomatch h
  | _ :: _, [], h, _ => nomatch h
  | k :: ks, u :: us, h, q => .cons (q 0 k u rfl rfl) (nvs_ofJ (Nat.succ.inj h) fun j a b x y => q (j + 1) a b x y)
section
variable {P : Program} {w : World} {K : PySem.W.Frag} {mg : Str → Option Value} {base : Heap}
theorem cap_fM {f c : Addr} {A : Around} {outer : List Env} {s : Shared} {H : Hp} {E : XK} (ok : (xM P w K mg base f c A outer s H E).Ok) : Caps (xM P w K mg base f c A outer s H E) (cloFrom (xM P w K mg base f c A outer s H E).env.cells (C8.fnScope st_followM).names []) ["letters", "places"] [0, 2] := Caps.made ok free_followM (by decide +kernel) rfl
theorem cap_eM {f c : Addr} {A : Around} {outer : List Env} {s : Shared} {H : Hp} {E : XK} (ok : (xM P w K mg base f c A outer s H E).Ok) : Caps (xM P w K mg base f c A outer s H E) (cloFrom (xM P w K mg base f c A outer s H E).env.cells (C8.fnScope st_is_endM).names []) ["places"] [2] := Caps.made ok free_is_endM (by decide +kernel) rfl
theorem cap_aM {f c : Addr} {A : Around} {outer : List Env} {s : Shared} {H : Hp} {E : XK} : Caps (xM P w K mg base f c A outer s H E) (xM P w K mg base f c A outer s H E).env.cells ["letters", "places"] [0, 2] := ⟨fun _ _ e => e, by
  intro y hy
  simp only [List.mem_cons, List.mem_nil_iff, or_false] at hy
  rcases hy with rfl | rfl
  · exact .inl rfl
  · exact .inl rfl, fun _ _ _ e => e, rfl⟩
/-- the words of a pattern's branches -/
def MtA (brs : List (List Itm)) (cs : List Nat) : Prop := ∃ b ∈ brs, Mt b cs
def sp_machine_of (tabs : List NTab) : Sp := fun vs H Q _ => ∃ (z pt : Str) (brs : List (List Itm)), vs = [.str z, .str pt] ∧ IsLet z ∧ pt.length ≤ 10000 ∧ brs ≠ [] ∧ manyI brs ≤ 8 ∧ brs.length ≤ 8 ∧ PatT z.cps.toList brs pt ∧ TabsN tabs H ∧
  ∀ H' p (M : Mach), ExtN H H' → TabsN tabs H' → MachAt H' p M → M.Ok → M.z = z → M.rows.length ≤ 257 → Canon z.length M.rows M.ends → (∀ cs, (∀ c ∈ cs, c ∈ z.cps.toList) → (M.has cs = true ↔ MtA brs cs)) → Q (.ref p) H'
theorem stI_lt {brs : List (List Itm)} {q : Nat} (h : q ∈ stI brs) : q < (plA brs).length := by
  obtain ⟨j, b, hj, rfl⟩ := stI_at.mp h
  exact plA_in hj
theorem cloK_lt {ps : List Plc} {T : List Nat} : ∀ q ∈ cloK ps T, q < ps.length := fun q h => (mem_cloK.mp h).1
theorem ok_machine_of (T : TX K mg) {c PT : Addr} {tabs : List NTab} (F : FunC K "machine_of" "machine_of" s_machine_of T.a_machine_of T.fd_machine_of c) (TB : TabB base mg c PT) (hin : (PT, nm_machine_of) ∈ tabs) (huq : ∀ p ∈ tabs, p.1 = PT → p.2 = nm_machine_of) : FnOk P w K mg base CX0 7 T.a_machine_of T.fd_machine_of ["letters", "pattern"] (sp_machine_of tabs) := by
  have G_built : FnOk P w K mg base CX0 6 T.a_built T.fd_built ["letters", "start", "follow", "is_end"] (sp_builtU P w K mg base) := ok_builtU T
  have G_branches_of : FnOk P w K mg base CX0 5 T.a_branches_of T.fd_branches_of ["letters", "pattern"] sp_branches_of := ok_branches_of T
  have G_places_of : FnOk P w K mg base CX0 1 T.a_places_of T.fd_places_of ["branches"] sp_places_of := ok_places_of T
  have G_let_on : FnOk P w K mg base CX0 1 T.a_let_on T.fd_let_on ["places", "numbers"] sp_let_on := ok_let_on T
  refine F.ok sc_machine_of (fun vs H Q E h => ?_) (fun A outer s H vs Q E hr h => ?_)
  · obtain ⟨z, pt, brs, rfl, _⟩ := h
    rfl
  · obtain ⟨z, pt, brs, rfl, hz, hpt, hne, h8, h8b, hpat, tb0, q⟩ := h
    refine ⟨_, (pss_cons (ps_asg (pe_call G_places_of (hr.mono (by decide)) (by rfl) T.g_places_of T.F_places_of.kp T.b_places_of .nil pass0 (pa_cons (pe_call G_branches_of (hr.mono (by decide)) (by rfl) T.g_branches_of T.F_branches_of.kp T.b_branches_of .nil pass0 (pa_cons (pv 0) (pa_cons (pv 1) pa_nil))) pa_nil)) (pg_tupK (n := 2) K rfl (by rfl) (pgs_cons (pg_name (i := 2) sc_machine_of.nd rfl (Or.inr rfl)) (pgs_cons (pg_name (i := 3) sc_machine_of.nd rfl (Or.inl rfl)) pgs_nil))))
        (pss_cons (ps_ndefMS (st := st_followM) (i := 4) rfl TB rfl hin (by kernel_rfl) huq free_followM rfl rfl rfl sc_machine_of.nd rfl (Or.inl rfl) (Or.inr rfl))
        (pss_cons (ps_ndefMS (st := st_is_endM) (i := 5) rfl TB rfl hin (by kernel_rfl) huq free_is_endM rfl rfl rfl sc_machine_of.nd rfl (Or.inl rfl) (Or.inr rfl))
        (pss_one (ps_ret (pe_callTr G_built (hr.mono (by decide)) (by rfl) T.g_built T.F_built.kp T.b_built (fun _ => cap_aM) (fun _ => rfl) (pa_cons (pv 0) (pa_cons (pe_call G_let_on (hr.mono (by decide)) (by rfl) T.g_let_on T.F_let_on.kp T.b_let_on .nil pass0 (pa_cons (pv 2) (pa_cons (pv 3) pa_nil))) (pa_cons (pv 4) (pa_cons (pv 5) pa_nil)))))))))), ?_⟩
    have zl : Zl z.cps.toList := ⟨by rw [Array.length_toList]; exact hz.five, hz.small⟩
    have ok := hpat.ok
    have po := plOk_A ok
    have pln := plA_len brs
    have h64 : (plA brs).length < 64 := by omega
    refine ⟨.str z, rfl, .str pt, rfl, z, pt, brs, rfl, zl, hpt, hne, h8, h8b, hpat, fun Ha b bas sa nb ba => ?_⟩
    refine ⟨b, bas, brs, rfl, ba, ok, by omega, by omega, fun H1 p0 pl sl as sb ep pa est => ?_⟩
    have sm1 := sa.trans sb
    refine ⟨p0, _, rfl, .inl (.inl ep), rfl, .ref pl, _, rfl, .ref sl, [], rfl, rfl, ?_⟩
    refine ⟨tb0.ext sm1, fun f1 c1 H2 ex2 ng2 tb2 nf1 ef1 ec1 => ?_⟩
    refine ⟨tb2, fun f2 c2 H3 ex3 ng3 tb3 nf2 ef2 ec2 => ?_⟩
    have s13 : ∀ b o, H1 b = some o → (∀ ps, o ≠ .tbl ps) → H3 b = some o := fun b o eb n => ex3 b o (ex2 b o eb n) n
    have pa3 : PlsAt H3 pl as (plA brs) := ⟨s13 _ _ pa.1 (by intro ps z; cases z), pa.2.1, fun i a q x y => s13 _ _ (pa.2.2 i a q x y) (by intro ps z; cases z)⟩
    have est3 := s13 _ _ est (by intro ps z; cases z)
    refine ⟨.str z, rfl, ?_⟩
    have stl : (stI brs).length ≤ 10000 := by
      unfold stI
      rw [List.length_map, List.length_range]
      omega
    refine ⟨.ref pl, rfl, .ref sl, rfl, pl, sl, as, plA brs, stI brs, rfl, pa3, po, h64, est3, stl, fun n hn => stI_lt hn, fun H3' v0 s30 nv0 ev0 => ?_⟩
    refine ⟨.ref f1, rfl, .ref f2, rfl, rfl, fun okx H4 hout hnone CT => ?_⟩
    have f31 : H3' f1 = some (FnO f1 (nf_followM (cloFrom (xM P w K mg base T.a_machine_of c A outer s H E).env.cells (C8.fnScope st_followM).names []) c1)) := s30 _ _ (ex3 f1 _ ef1 fun ps => fnO_ne ps)
    have c31 : H3' c1 = some (CodeO c1 q_followM) := s30 _ _ (ex3 c1 _ ec1 fun ps => codeO_ne ps)
    have f32 : H3' f2 = some (FnO f2 (nf_is_endM (cloFrom (xM P w K mg base T.a_machine_of c A outer s H E).env.cells (C8.fnScope st_is_endM).names []) c2)) := s30 _ _ ef2
    have c32 : H3' c2 = some (CodeO c2 q_is_endM) := s30 _ _ ec2
    have nin : ∀ b o, H3' b = some o → ¬ inC (xM P w K mg base T.a_machine_of c A outer s H E).env.cells b := fun b o eb z => by
      have := hnone b z
      rw [eb] at this
      cases this
    have up : ∀ b o, H3' b = some o → H4 b = some o := fun b o eb => by
      rw [hout b (nin b o eb)]
      exact eb
    have pa4 : PlsAt H4 pl as (plA brs) := (pa3.same s30).same fun b o eb => up b o eb
    have ev4 := up _ _ ev0
    have cellE : ∀ b, inC (xM P w K mg base T.a_machine_of c A outer s H E).env.cells b → ∃ o, H4 b = some (CellO b o) := fun b z => by
      obtain ⟨y, hy⟩ := z
      obtain ⟨o, v, z1, _⟩ := CT.all y b hy
      exact ⟨o, z1⟩
    have capF := cap_fM okx
    have capE := cap_eM okx
    have CF : ∀ H' : Hp, Same H4 H' → CellsT H' (cloFrom (xM P w K mg base T.a_machine_of c A outer s H E).env.cells (C8.fnScope st_followM).names []) ["letters", "places"] [some (.str z), some (.ref pl)] := fun H' sm => (CT.same fun b o eb => sm _ _ eb).sub capF rfl fun i y hy => ⟨i, hy, rfl⟩
    have CE : ∀ H' : Hp, Same H4 H' → CellsT H' (cloFrom (xM P w K mg base T.a_machine_of c A outer s H E).env.cells (C8.fnScope st_is_endM).names []) ["places"] [some (.ref pl)] := fun H' sm => (CT.same fun b o eb => sm _ _ eb).sub capE rfl fun i y hy => by
      match i, hy with
      | 0, hy => exact ⟨1, hy, rfl⟩
      | i + 1, hy => simp at hy
    have ca1 := Callable.of ((ok_followM (P := P) (w := w) (K := K) (mg := mg) (base := base) (f := f1) (c := c1) (cl := cloFrom (xM P w K mg base T.a_machine_of c A outer s H E).env.cells (C8.fnScope st_followM).names []) T).mono (show 3 ≤ 4 by decide))
    have ca2 := Callable.of ((ok_is_endM (P := P) (w := w) (K := K) (mg := mg) (base := base) (f := f2) (c := c2) (cl := cloFrom (xM P w K mg base T.a_machine_of c A outer s H E).env.cells (C8.fnScope st_is_endM).names []) T).mono (show 1 ≤ 4 by decide))
    have m0 : cloK (plA brs) (stI brs) ∈ allK brs := List.mem_cons_self
    obtain ⟨i0, e0⟩ := uK_idx m0
    have big : (usK brs).length ≤ 257 := usK_len h8
    have zl' : z.cps.toList.length = z.length := Array.length_toList
    have rok : ∀ s', s' < (usK brs).length → (rK z.cps.toList brs s').length = z.length ∧ ∀ t ∈ rK z.cps.toList brs s', t < (usK brs).length := fun s' _ => ⟨by unfold rK; rw [List.length_map, zl'], fun t ht => by
      obtain ⟨d, _, rfl⟩ := List.mem_map.mp ht
      exact (uK_idx (allK_next ok _ _)).1⟩
    have uin : ∀ s', s' < (usK brs).length → (uK brs s').length ≤ 10000 ∧ ∀ q ∈ uK brs s', q < (plA brs).length := fun s' hs' => by
      have hc := allK_clo ok (uK_mem hs')
      have hm := uK_mem hs'
      rcases List.mem_cons.mp hm with e | e
      · rw [e]
        exact ⟨Nat.le_trans (cloK_len _ _) (by omega), cloK_lt⟩
      · obtain ⟨T', _, e⟩ := List.mem_map.mp e
        rw [← e]
        exact ⟨Nat.le_trans (cloK_len _ _) (by omega), cloK_lt⟩
    refine ⟨z, .ref v0, f1, f2, _, _, _, _, fun s' => kJ (uK brs s'), (usK brs).idxOf (cloK (plA brs) (stI brs)), (usK brs).length, z.length, rK z.cps.toList brs, finK brs, rfl, ?_, up _ _ f31, ca1, up _ _ f32, ca2, i0, by omega, hz.one, hz.five, fun s' _ => kJ_depth _, fun s' t hs ht e => uK_inj hs ht (kJ_inj e), rok, fun s' v H' Q' hs' sm hv hQ => ?_, fun s' v H' Q' hs' sm hv hQ => ?_, fun H5 p M ks tbl hl5 sm5 mm ez bo => ⟨fun b y => ?_, ?_⟩⟩
    · show NV H4 (kJ (uK brs ((usK brs).idxOf (cloK (plA brs) (stI brs))))) (.ref v0)
      rw [e0]
      exact nvJ ev4
    · -- follow
      have nC : ∀ b o, H' b = some o → (∀ x, o ≠ CellO b x) → hide (inC (cloFrom (xM P w K mg base T.a_machine_of c A outer s H E).env.cells (C8.fnScope st_followM).names [])) H' b = some o := fun b o eb n => by
        rw [hide_out (fun z => by
          obtain ⟨y, hy⟩ := z
          obtain ⟨o', v, z1, _⟩ := (CF H' sm).all y b hy
          rw [eb] at z1
          exact n _ (Option.some.inj z1))]
        exact eb
      obtain ⟨hp, rfl, ehp⟩ := nvJ_inv hv
      obtain ⟨u1, u2⟩ := uin s' hs'
      have pa' := pa4.same sm
      refine ⟨[some (.str z), some (.ref pl)], sm _ _ (up _ _ f31), sm _ _ (up _ _ c31), CF H' sm, z, pl, hp, as, plA brs, uK brs s', rfl, rfl, hz.five, ⟨nC _ _ pa'.1 (by intro x z; cases z), pa'.2.1, fun i a q x y => nC _ _ (pa'.2.2 i a q x y) (by intro x z; cases z)⟩, po, h64, nC _ _ ehp (by intro x z; cases z), u1, u2, fun H6 b us sm6 nb eb lu cu h6n => ?_⟩
      have out6 : ∀ (x : Addr) (o : HO), H6 x = some o → ¬ inC (cloFrom (xM P w K mg base T.a_machine_of c A outer s H E).env.cells (C8.fnScope st_followM).names []) x := fun x o ex z => by
        rw [h6n x z] at ex
        cases ex
      refine hQ _ b (vr us) (fun x o ex => ?_) ?_ ?_ (nvs_ofJ (by rw [List.length_map, lu, List.length_map]; exact (rok s' hs').1.symm) fun j k v' hk hv' => ?_)
      · by_cases z : inC (cloFrom (xM P w K mg base T.a_machine_of c A outer s H E).env.cells (C8.fnScope st_followM).names []) x
        · exact (back_in z).trans ex
        · exact (back_out z).trans (sm6 _ _ ((hide_out z).trans ex))
      · exact (hide_out (out6 b _ eb)).symm.trans nb
      · exact (back_out (out6 b _ eb)).trans eb
      · have hj := (List.getElem?_eq_some_iff.mp hv').1
        rw [List.length_map] at hj
        have hj2 : j < z.cps.toList.length := by omega
        have hc := List.getElem?_eq_getElem hj2
        have hu := List.getElem?_eq_getElem hj
        have q1 := cu j _ us[j] hc hu
        rw [List.getElem?_map, hu] at hv'
        obtain rfl : V.ref us[j] = v' := Option.some.inj hv'
        unfold rK at hk
        rw [List.getElem?_map, List.getElem?_map, hc] at hk
        have hk : kJ (uK brs ((usK brs).idxOf (cloK (plA brs) (nxtK (plA brs) (uK brs s') z.cps.toList[j])))) = k := Option.some.inj hk
        rw [(uK_idx (allK_next ok _ _)).2] at hk
        rw [← hk]
        exact nvJ ((back_out (out6 us[j] _ q1)).trans q1)
    · -- is_end
      have nC : ∀ b o, H' b = some o → (∀ x, o ≠ CellO b x) → hide (inC (cloFrom (xM P w K mg base T.a_machine_of c A outer s H E).env.cells (C8.fnScope st_is_endM).names [])) H' b = some o := fun b o eb n => by
        rw [hide_out (fun z => by
          obtain ⟨y, hy⟩ := z
          obtain ⟨o', v, z1, _⟩ := (CE H' sm).all y b hy
          rw [eb] at z1
          exact n _ (Option.some.inj z1))]
        exact eb
      obtain ⟨hp, rfl, ehp⟩ := nvJ_inv hv
      obtain ⟨u1, u2⟩ := uin s' hs'
      have pa' := pa4.same sm
      refine ⟨[some (.ref pl)], sm _ _ (up _ _ f32), sm _ _ (up _ _ c32), CE H' sm, pl, hp, as, plA brs, uK brs s', rfl, rfl, ⟨nC _ _ pa'.1 (by intro x z; cases z), pa'.2.1, fun i a q x y => nC _ _ (pa'.2.2 i a q x y) (by intro x z; cases z)⟩, nC _ _ ehp (by intro x z; cases z), u1, u2, fun H6 sm6 h6n => ?_⟩
      refine hQ _ fun x o ex => ?_
      by_cases z : inC (cloFrom (xM P w K mg base T.a_machine_of c A outer s H E).env.cells (C8.fnScope st_is_endM).names []) x
      · exact (back_in z).trans ex
      · exact (back_out z).trans (sm6 _ _ ((hide_out z).trans ex))
    · obtain ⟨o, z1⟩ := cellE b y
      rw [sm5 _ _ z1, z1]
    · have keep : ∀ b o, H3' b = some o → hide (inC (xM P w K mg base T.a_machine_of c A outer s H E).env.cells) H5 b = some o := fun b o eb => by
        rw [hide_out (nin b o eb)]
        exact sm5 _ _ (up b o eb)
      have tk : TabOk ks.length z.length tbl := BuiltOk.tab bo.wi bo.len bo.full hz.one hz.five (by omega)
      refine q _ p M (fun b o eb n => keep b o (s30 _ _ (s13 b o (sm1 _ _ eb) n))) ((tb3.ext s30).ext fun b o eb => keep b o eb) (mm.mono fun b xs eb => ?_) (bo.mach tk (by rw [ez]; exact hz) (by rw [ez])) ez (Nat.le_trans bo.few big) (bo.canon tk) fun cs hcs => ?_
      · rw [hide_out (fun z => by
          obtain ⟨o, z1⟩ := cellE b z
          rw [sm5 _ _ z1] at eb
          cases eb)]
        exact eb
      · have hw := cols_lt hcs
        have := bo.words tk (cs.map fun c => z.cps.toList.idxOf c) hw
        rw [has_runs, ez, decide_eq_true_iff, this]
        have e := rK_run (cs := z.cps.toList) ok (cs.map fun c => z.cps.toList.idxOf c) _ i0 (fun i hi => by rw [zl']; exact hw i hi)
        have back : (cs.map fun c => z.cps.toList.idxOf c).map (fun i => z.cps.toList.getD i 0) = cs := by
          rw [List.map_map]
          conv => rhs; rw [← List.map_id cs]
          refine List.map_congr_left fun d hd => ?_
          have hl := List.idxOf_lt_length_iff.mpr (hcs d hd)
          show z.cps.toList.getD (z.cps.toList.idxOf d) 0 = d
          rw [List.getD_eq_getElem?_getD, List.getElem?_eq_getElem hl, List.getElem_idxOf]
          rfl
        rw [back, e0] at e
        unfold finK
        rw [decide_eq_true_iff, show runR (rK z.cps.toList brs) = fun s w => w.foldl (fun s c => (rK z.cps.toList brs s).getD c 0) s from rfl]
        show (∃ q ∈ uK brs (List.foldl (fun s c => (rK z.cps.toList brs s).getD c 0) _ _), _) ↔ _
        rw [e]
        exact words_A ok cs
end
end LH

namespace LH
open PySem PySem.Spec PyProof.Rows L2
theorem sl6 : ∀ m : Nat, m ≤ 1000000 → m < sizeLine := fun _ hm => Nat.lt_of_le_of_lt hm (by decide)
section
variable {P : Program} {w : World} {K : PySem.W.Frag} {mg : Str → Option Value} {base : Heap}
/-! ### _law_draws -/
def sp_law_draws (K : PySem.W.Frag) : Sp := fun vs H Q _ => ∃ (a : Addr) (ns : List Int), vs = [.ref a] ∧ SqL K H a (ns.map V.int) ∧ ns.length ≤ 63 ∧ ∀ H' p, Same H H' → H p = none → RowAt H' p → Q (.ref p) H'
theorem ok_law_draws (T : TX K mg) : FnOk P w K mg base CX0 1 T.a_law_draws T.fd_law_draws ["script"] (sp_law_draws K) := by
  refine T.F_law_draws.ok sc_law_draws (fun vs H Q E h => ?_) (fun cdv A outer s H vs Q E hr h => ?_)
  · obtain ⟨a, ns, rfl, _⟩ := h
    rfl
  · obtain ⟨a, ns, rfl, hS, hn, q⟩ := h
    refine ⟨_, (pss_cons (ps_set (i := 1) sc_law_draws.nd rfl (Or.inl rfl) (pe_lst pa_nil))
      (pss_cons (ps_for PassesOwn.never rfl (pi_range1 (by rfl) T.m_range (pa_cons (pe_callB (call_min2 rfl) (by rfl) T.m_min (by decide +kernel) (pa_cons (pe_callB (call_lenK K rfl) (by rfl) T.m_len (by decide +kernel) (pa_cons (pv 0) pa_nil)) (pa_cons pe_int pa_nil))) pa_nil)) (pg_name (i := 2) sc_law_draws.nd rfl (Or.inl rfl))
        (pss_cons (ps_set (i := 3) sc_law_draws.nd rfl (Or.inl rfl) (pe_callB call_abs (by rfl) T.m_abs (by decide +kernel) (pa_cons (pe_ix (ix_listK K rfl) (pv 0) (pv 2) (fun _ _ => rfl)) pa_nil)))
          (pss_one (ps_if (pt_cmpR op_lt (pv 3) (pe_op op_pow pe_int pe_int) (nomark _))
            (pss_cons (ps_set (i := 4) sc_law_draws.nd rfl (Or.inl rfl) (pe_op op_mod (pe_op op_mul (pe_op op_mod (pe_op op_add (pe_op op_add (pv 3) (pe_op op_mul pe_int (pv 2))) pe_int) pe_int) pe_int) pe_int))
              (pss_cons (ps_set (i := 4) sc_law_draws.nd rfl (Or.inl rfl) (pe_op op_mod (pe_op op_mul (pv 4) (pv 4)) pe_int))
              (pss_cons (ps_expr (pe_bmK K rfl PySem.F.plainAttrs_list PySem.F.slot_list_append PySem.F.type_list_append mt_append (pv 1) (pa_cons (pe_op op_mod (pe_op op_fdiv (pv 4) pe_int) pe_int) pa_nil)))
              (pss_cons (ps_expr (pe_bmK K rfl PySem.F.plainAttrs_list PySem.F.slot_list_append PySem.F.type_list_append mt_append (pv 1) (pa_cons (pe_op op_mod (pe_op op_fdiv (pv 4) pe_int) pe_int) pa_nil)))
              (pss_cons (ps_set (i := 4) sc_law_draws.nd rfl (Or.inl rfl) (pe_op op_mod (pe_op op_add (pv 4) (pe_op op_mul pe_int (pe_op op_add (pv 2) pe_int))) pe_int))
              (pss_one (ps_expr (pe_bmK K rfl PySem.F.plainAttrs_list PySem.F.slot_list_append PySem.F.type_list_append mt_append (pv 1) (pa_cons (pe_op op_mod (pe_op op_fdiv (pe_op op_mod (pe_op op_mul (pv 4) (pv 4)) pe_int) pe_int) pe_int) pa_nil)))))))))
            (pss_cons (ps_set (i := 5) sc_law_draws.nd rfl (Or.inl rfl) pe_int)
              (pss_one (ps_while PassesOwn.never (PW.pt (pw_and (pt_cmpR op_ge (pv 3) pe_int (nomark _)) (pw_and1 (pt_cmpR op_lt (pv 5) pe_int (nomark _)))))
                (pss_cons (ps_expr (pe_bmK K rfl PySem.F.plainAttrs_list PySem.F.slot_list_append PySem.F.type_list_append mt_append (pv 1) (pa_cons (pe_op op_mod (pv 3) pe_int) pa_nil)))
                  (pss_cons (ps_set (i := 3) sc_law_draws.nd rfl (Or.inl rfl) (pe_op op_fdiv (pv 3) pe_int))
                  (pss_one (ps_set (i := 5) sc_law_draws.nd rfl (Or.inl rfl) (pe_op op_add (pv 5) pe_int))))))))))))
      (pss_one (ps_ret (pe_slice (sl_listK K rfl) (pv 1) po_none (po_some pe_int)))))), ?_⟩
    have B : ∀ a m : Int, 0 < m → m < 2 ^ 40 → -(2 ^ 64) < a % m ∧ a % m < 2 ^ 64 := fun a m h1 h2 => by
      have g0 := Int.emod_nonneg a (show m ≠ 0 by omega)
      have g1 := Int.emod_lt_of_pos a h1
      omega
    refine ⟨by show 0 ≤ sizeLine; decide, fun D nD => ?_⟩
    have s0 := same_new (o := .lst []) nD
    have e0 : (L2.upd H D (.lst [])) D = some (.lst (([] : List Int).map V.int)) := upd_same
    generalize L2.upd H D (.lst []) = H0 at s0 e0
    refine ⟨.ref a, rfl, a, _, rfl, .inl (s0.seq hS), _, _, rfl, ?_⟩
    rw [List.length_map, if_neg (by omega)]
    refine ⟨(ns.length : Int), rfl, by omega, by omega, ?_⟩
    refine for_range (lo := 0) (n := ((ns.length : Nat) : Int).toNat) (fun i σ H' => Same H H' ∧ ∃ (ds : List Int) (y2 y3 y4 y5 : Option V), σ = [some (.ref a), some (.ref D), y2, y3, y4, y5] ∧ H' D = some (.lst (ds.map V.int)) ∧ ds.length ≤ 60 * i) ⟨s0, [], none, none, none, none, rfl, e0, by simp⟩ (fun i σ H1 hi hW => ?_) (fun σ H1 hW => ?_)
    · obtain ⟨s1, ds, y2, y3, y4, y5, rfl, e1, l1⟩ := hW
      have hi' : i < ns.length := by omega
      have ec := List.getElem?_eq_getElem hi'
      generalize ns[i] = c at ec
      refine ⟨.ref a, rfl, .int (0 + (i : Int)), rfl, a, _, 0 + (i : Int), .int c, rfl, rfl, s1.seq hS, (by rw [Int.zero_add]; exact atI_nat (vI_get ec)), c, rfl, ?_⟩
      generalize (if c < 0 then -c else c) = rest
      refine ⟨.int rest, rfl, 10, 18, rfl, rfl, ⟨by decide, by decide, by decide⟩, _, _, rfl, rfl, _, rfl, ite2 (fun _ => ?_) (fun _ => ?_)⟩
      · refine ⟨.int rest, rfl, .int (0 + (i : Int)), rfl, 7919, _, rfl, rfl, .inl ⟨by decide, by decide⟩, _, _, rfl, rfl, _, _, rfl, rfl, _, 2147483647, rfl, rfl, (by show (0 : Int) < 2147483647; decide), _, 48271, rfl, rfl, .inl (B _ _ (by decide) (by decide)), _, 2147483647, rfl, rfl, (by show (0 : Int) < 2147483647; decide), ?_⟩
        refine ⟨_, rfl, _, rfl, _, _, rfl, rfl, .inl (B _ _ (by decide) (by decide)), _, 2147483629, rfl, rfl, (by show (0 : Int) < 2147483629; decide), ?_⟩
        refine ⟨.ref D, rfl, .inl ⟨rfl, _, .inl (.inl e1)⟩, _, rfl, _, 16, rfl, rfl, ⟨by decide, by decide⟩, _, 1000, rfl, rfl, (by show (0 : Int) < 1000; decide), D, _, _, rfl, rfl, e1, sl6 _ (by rw [List.length_map]; omega), ?_⟩
        refine ⟨.ref D, rfl, .inl ⟨rfl, _, .inl (.inl upd_same)⟩, _, rfl, _, 16000, rfl, rfl, ⟨by decide, by decide⟩, _, 1000, rfl, rfl, (by show (0 : Int) < 1000; decide), D, _, _, rfl, rfl, upd_same, sl6 _ (by rw [List.length_append, List.length_map]; show ds.length + 1 ≤ _; omega), ?_⟩
        refine ⟨_, rfl, .int (0 + (i : Int)), rfl, _, 7, rfl, rfl, 40692, _, rfl, rfl, .inl ⟨by decide, by decide⟩, _, _, rfl, rfl, _, 2147483587, rfl, rfl, (by show (0 : Int) < 2147483587; decide), ?_⟩
        refine ⟨.ref D, rfl, .inl ⟨rfl, _, .inl (.inl upd_same)⟩, _, rfl, _, rfl, _, _, rfl, rfl, .inl (B _ _ (by decide) (by decide)), _, 2147483647, rfl, rfl, (by show (0 : Int) < 2147483647; decide), _, 16, rfl, rfl, ⟨by decide, by decide⟩, _, 1000, rfl, rfl, (by show (0 : Int) < 1000; decide), D, _, _, rfl, rfl, upd_same, sl6 _ (by rw [List.length_append, List.length_append, List.length_map]; show ds.length + 1 + 1 ≤ _; omega), ?_⟩
        refine ⟨same_putN (same_putN (same_putN s1 nD) nD) nD, _, _, _, _, _, rfl, (by rw [upd_same, vI_snoc, vI_snoc, vI_snoc]), ?_⟩
        rw [List.length_append, List.length_append, List.length_append]
        show ds.length + 1 + 1 + 1 ≤ _
        omega
      · refine ⟨fun mz σ H' => Same H H' ∧ ∃ (es : List Int) (r : Int) (m : Nat), mz + m = 60 ∧ σ = [some (.ref a), some (.ref D), some (.int (0 + (i : Int))), some (.int r), y4, some (.int (m : Int))] ∧ H' D = some (.lst (es.map V.int)) ∧ es.length ≤ 60 * i + m, ⟨60, s1, ds, rest, 0, rfl, rfl, e1, by omega⟩, fun mz σ H2 hW => ?_⟩
        obtain ⟨s2, es, r, m, hm, rfl, e2, l2⟩ := hW
        refine ⟨.int r, rfl, r, 1000, rfl, rfl, _, rfl, ?_⟩
        have out : (Same H H2 ∧ ∃ (ds : List Int) (y2 y3 y4' y5 : Option V), [some (V.ref a), some (.ref D), some (.int (0 + (i : Int))), some (.int r), y4, some (.int (m : Int))] = [some (V.ref a), some (.ref D), y2, y3, y4', y5] ∧ H2 D = some (.lst (ds.map V.int)) ∧ ds.length ≤ 60 * (i + 1)) := ⟨s2, es, _, _, _, _, rfl, e2, by omega⟩
        refine ite2 (fun _ => ?_) (fun _ => ?_)
        · refine ⟨.int (m : Int), rfl, _, 60, rfl, rfl, _, rfl, ?_⟩
          by_cases hm60 : m < 60
          · rw [decide_eq_true (show (m : Int) < 60 by omega)]
            refine ⟨fun σ' H' => ∃ m', m' < mz ∧ (Same H H' ∧ ∃ (es : List Int) (r : Int) (m : Nat), m' + m = 60 ∧ σ' = [some (.ref a), some (.ref D), some (.int (0 + (i : Int))), some (.int r), y4, some (.int (m : Int))] ∧ H' D = some (.lst (es.map V.int)) ∧ es.length ≤ 60 * i + m), fun σ' H' h => h, ?_⟩
            refine ⟨.ref D, rfl, .inl ⟨rfl, _, .inl (.inl e2)⟩, .int r, rfl, _, 1000, rfl, rfl, (by show (0 : Int) < 1000; decide), D, _, _, rfl, rfl, e2, sl6 _ (by rw [List.length_map]; omega), ?_⟩
            refine ⟨.int r, rfl, _, 1000, rfl, rfl, ⟨by decide, by decide⟩, .int (m : Int), rfl, _, 1, rfl, rfl, mz - 1, by omega, same_putN s2 nD, _, _, m + 1, by omega, rfl, (by rw [upd_same, vI_snoc]), ?_⟩
            rw [List.length_append]
            show es.length + 1 ≤ _
            omega
          · rw [decide_eq_false (show ¬ (m : Int) < 60 by omega)]
            exact out
        · exact out
    · obtain ⟨s1, ds, y2, y3, y4, y5, rfl, e1, l1⟩ := hW
      refine ⟨.ref D, rfl, 240, rfl, D, _, rfl, .inl (.inl e1), fun p np => ?_⟩
      have fp : H p = none := by
        cases z : H p with
        | none => rfl
        | some o =>
          rw [s1 _ _ z] at np
          cases np
      obtain ⟨es, he, hl⟩ : ∃ es : List Int, cutV (ds.map V.int) none (some 240) = es.map V.int ∧ es.length ≤ 240 := ⟨ds.take (min 240 ds.length), by
        unfold cutV
        rw [HT.sIx_none, show (some (240 : Int)) = some ((240 : Nat) : Int) from rfl, HT.sIx_nat, List.length_map, Nat.sub_zero, List.drop_zero, List.map_take], by
        rw [List.length_take]
        omega⟩
      refine q _ p (same_putN s1 fp) fp ⟨es, ?_, by omega⟩
      rw [upd_same, he]
end
end LH

namespace LH
open PySem PySem.Spec PyProof.Rows L2
/-- what is left to be taken, and what was taken -/
structure Lft (n i : Nat) (ls ys : List Nat) : Prop where
  nd : (ys ++ ls).Nodup
  sm : ∀ c ∈ ys ++ ls, 97 ≤ c ∧ c ≤ 122
  ln : n ≤ ls.length + i
  lm : ls.length ≤ 26
  yl : ys.length = i
theorem Lft.pop {n i : Nat} {ls ys : List Nat} (h : Lft n i ls ys) (k : Nat) (hk : k < ls.length) : Lft n (i + 1) (ls.eraseIdx k) (ys ++ [ls[k]]) := by
  have p : (ys ++ ls).Perm ((ys ++ [ls[k]]) ++ ls.eraseIdx k) := by
    rw [List.append_assoc]
    exact List.Perm.append_left ys (erase_perm ls k hk)
  have hl : (ls.eraseIdx k).length = ls.length - 1 := List.length_eraseIdx_of_lt hk
  refine ⟨p.nodup h.nd, fun c hc => h.sm c (p.mem_iff.mpr hc), ?_, ?_, ?_⟩
  · have := h.ln
    omega
  · have := h.lm
    omega
  · rw [List.length_append, h.yl]
    rfl
theorem az_step : ∀ b : Int, b = 1 ∨ b = 5 → b ≠ 0 ∧ (stepS0 "abcdefghijklmnopqrstuvwxyz" b).length ≤ sizeLine ∧ (b = 1 → (Builtin.Str.strSliceIndices none none b ("abcdefghijklmnopqrstuvwxyz" : Str).length).length = ("abcdefghijklmnopqrstuvwxyz" : Str).length → stepS0 "abcdefghijklmnopqrstuvwxyz" b = "abcdefghijklmnopqrstuvwxyz") ∧ (stepS0 "abcdefghijklmnopqrstuvwxyz" b).length ≤ 26 ∧ ∃ ls, sgns (stepS0 "abcdefghijklmnopqrstuvwxyz" b) = vs_ ls ∧ ls.Nodup ∧ (∀ c ∈ ls, 97 ≤ c ∧ c ≤ 122) ∧ 6 ≤ ls.length ∧ ls.length ≤ 26 := by
  intro b h
  rcases h with rfl | rfl
  · refine ⟨by decide, by decide +kernel, fun _ _ => by decide +kernel, by decide +kernel, (List.range 26).map (97 + ·), by decide +kernel, by decide, fun c hc => mem_az hc, by decide, by decide⟩
  · exact ⟨by decide, by decide +kernel, (fun z => absurd z (by decide)), by decide +kernel, [97, 102, 107, 112, 117, 122], by decide +kernel, by decide, by decide, by decide, by decide⟩
section
variable {P : Program} {w : World} {K : PySem.W.Frag} {mg : Str → Option Value} {base : Heap}
/-! ### _law_letters -/
def sp_law_letters : Sp := fun vs H Q _ => ∃ (r : Addr) (most : Nat), vs = [.ref r, .int (most : Int)] ∧ RowAt H r ∧ 1 ≤ most ∧ most ≤ 5 ∧ ∀ H' z, Off r H H' → RowAt H' r → IsLet z → Q (.str z) H'
theorem two_at {a b : V} {g : Int} (h0 : 0 ≤ g) (h1 : g < 2) : (g = 0 ∧ atI [a, b] g = some a) ∨ (g = 1 ∧ atI [a, b] g = some b) := by
  rcases (show g = 0 ∨ g = 1 by omega) with rfl | rfl
  · exact .inl ⟨rfl, atI_nat (j := 0) rfl⟩
  · exact .inr ⟨rfl, atI_nat (j := 1) rfl⟩
theorem ok_law_letters (T : TX K mg) : FnOk P w K mg base CX0 2 T.a_law_letters T.fd_law_letters ["draws", "most"] sp_law_letters := by
  have G_law_take : FnOk P w K mg base CX0 1 T.a_law_take T.fd_law_take ["draws", "many"] sp_law_take := ok_law_take T
  refine T.F_law_letters.ok sc_law_letters (fun vs H Q E h => ?_) (fun cdv A outer s H vs Q E hr h => ?_)
  · obtain ⟨r, most, rfl, _⟩ := h
    rfl
  · obtain ⟨r, most, rfl, hR, hm1, hm5, q⟩ := h
    refine ⟨_, (pss_cons (ps_set (i := 2) sc_law_letters.nd rfl (Or.inl rfl) (pe_callTy (call_listS rfl) (by rfl) T.m_list (by decide +kernel) (pa_cons (pe_stepS0 pe_str po_none (po_some (pe_ix (ix_listK K rfl) (pe_lst (pa_cons pe_int (pa_cons pe_int pa_nil))) (pe_call G_law_take (hr.mono (by decide)) (by rfl) T.g_law_take T.F_law_take.kp T.b_law_take .nil pass0 (pa_cons (pv 0) (pa_cons pe_int pa_nil))) (fun _ _ => rfl)))) pa_nil)))
      (pss_cons (ps_set (i := 3) sc_law_letters.nd rfl (Or.inl rfl) (pe_op op_add pe_int (pe_call G_law_take (hr.mono (by decide)) (by rfl) T.g_law_take T.F_law_take.kp T.b_law_take .nil pass0 (pa_cons (pv 0) (pa_cons (pv 1) pa_nil)))))
      (pss_cons (ps_set (i := 4) sc_law_letters.nd rfl (Or.inl rfl) (pe_lst pa_nil))
      (pss_cons (ps_for PassesOwn.never rfl (pi_range1 (by rfl) T.m_range (pa_cons (pv 3) pa_nil)) (pg_name (i := 5) sc_law_letters.nd rfl (Or.inl rfl))
        (pss_one (ps_expr (pe_bmK K rfl PySem.F.plainAttrs_list PySem.F.slot_list_append PySem.F.type_list_append mt_append (pv 4) (pa_cons (pe_bmK K rfl PySem.F.plainAttrs_list PySem.F.slot_list_pop PySem.F.type_list_pop mt_popAt (pv 2) (pa_cons (pe_ix (ix_listK K rfl) (pe_lst (pa_cons pe_int (pa_cons (pe_call G_law_take (hr.mono (by decide)) (by rfl) T.g_law_take T.F_law_take.kp T.b_law_take .nil pass0 (pa_cons (pv 0) (pa_cons (pe_callB (call_lenK K rfl) (by rfl) T.m_len (by decide +kernel) (pa_cons (pv 2) pa_nil)) pa_nil))) pa_nil))) (pe_call G_law_take (hr.mono (by decide)) (by rfl) T.g_law_take T.F_law_take.kp T.b_law_take .nil pass0 (pa_cons (pv 0) (pa_cons pe_int pa_nil))) (fun _ _ => rfl)) pa_nil)) pa_nil)))))
      (pss_one (ps_ret (pe_m1 PySem.F.slot_str_join PySem.F.type_str_join (mt_joinK K rfl) pe_str (pe_callB (cr_sortedSK K rfl) (by rfl) T.m_sorted (by decide +kernel) (pa_cons (pv 4) pa_nil))))))))), ?_⟩
    -- some
    refine ⟨by show 2 ≤ sizeLine; decide, fun L nL => ?_⟩
    have rL := hR.ne nL
    have eL : (L2.upd H L (.lst [.int 1, .int 5])) L = some (.lst [.int 1, .int 5]) := upd_same
    have R1 := hR.new (o := .lst [.int 1, .int 5]) nL
    have o1 : Off r H (L2.upd H L (.lst [.int 1, .int 5])) := Off.new nL
    generalize L2.upd H L (.lst [.int 1, .int 5]) = H1 at eL R1 o1
    refine ⟨.ref r, rfl, r, 2, rfl, R1, by decide, by decide, fun H2 g o2 R2 g0 g1 => ?_⟩
    obtain ⟨b, hb, hat⟩ : ∃ b : Int, (b = 1 ∨ b = 5) ∧ atI [V.int 1, V.int 5] g = some (.int b) := by
      rcases two_at (a := V.int 1) (b := V.int 5) g0 g1 with ⟨_, h⟩ | ⟨_, h⟩
      · exact ⟨1, .inl rfl, h⟩
      · exact ⟨5, .inr rfl, h⟩
    obtain ⟨b0, bl, bw, bl26, ls, els, lnd, lsm, l6, l26⟩ := az_step b hb
    refine ⟨L, _, g, .int b, rfl, rfl, .inl (.inl (o2 _ _ rL.symm eL)), hat, b, rfl, _, b, rfl, rfl, rfl, b0, bl, bw, ?_⟩
    refine ⟨_, rfl, Nat.le_trans bl26 (by decide), fun l nl => ?_⟩
    rw [els]
    have nr : l ≠ r := (R2.ne nl).symm
    have fl : H l = none := (o1.trans o2).free nr.symm nl
    have e3 : (L2.upd H2 l (.lst (vs_ ls))) l = some (.lst (vs_ ls)) := upd_same
    have R3 := R2.new (o := .lst (vs_ ls)) nl
    have o3 : Off r H (L2.upd H2 l (.lst (vs_ ls))) := (o1.trans o2).trans (Off.new nl)
    generalize L2.upd H2 l (.lst (vs_ ls)) = H3 at e3 R3 o3
    -- many
    refine ⟨.ref r, rfl, .int (most : Int), rfl, r, (most : Int), rfl, R3, by omega, by omega, fun H4 g o4 R4 g0 g1 => ?_⟩
    obtain ⟨m, rfl⟩ : ∃ m : Nat, g = (m : Int) := ⟨g.toNat, by omega⟩
    refine ⟨1, (m : Int), rfl, rfl, ?_⟩
    -- found
    refine ⟨by show 0 ≤ sizeLine; decide, fun F nF => ?_⟩
    have e4 := o4 _ _ nr e3
    have o4' := o3.trans o4
    have fF : H F = none := o4'.free (R4.ne nF) nF
    have lF : l ≠ F := ne_of_none e4 nF
    have rF : r ≠ F := R4.ne nF
    refine ⟨.int (1 + m), rfl, 1 + m, rfl, by omega, by omega, ?_⟩
    refine for_range (lo := 0) (n := (1 + (m : Int)).toNat) (fun i σ H' => ∃ ls ys y5, RowAt H' r ∧ Off r H H' ∧ H' l = some (.lst (vs_ ls)) ∧ H' F = some (.lst (vs_ ys)) ∧ Lft (m + 1) i ls ys ∧ σ = [some (.ref r), some (.int (most : Int)), some (.ref l), some (.int (1 + m)), some (.ref F), y5]) ⟨ls, [], none, R4.new nF, o4'.mut fF, by rw [upd_ne lF]; exact e4, upd_same, ⟨lnd, lsm, by omega, l26, rfl⟩, rfl⟩ (fun i σ H5 hi hW => ?_) (fun σ H5 hW => ?_)
    · obtain ⟨ls, ys, y5, R5, o5, el, eF, LF, rfl⟩ := hW
      have hlen : 0 < ls.length := by
        have := LF.ln
        omega
      have hl26 := LF.lm
      refine ⟨.ref F, rfl, .inl ⟨rfl, _, .inl (.inl eF)⟩, .ref l, rfl, .inl ⟨rfl, _, .inl (.inl el)⟩, .ref r, rfl, .ref l, rfl, l, _, rfl, .inl (.inl (.inl el)), r, _, rfl, R5, ?_, ?_, fun H6 g o6 R6 g0 g1 => ?_⟩
      · rw [List.length_map]
        omega
      · rw [List.length_map]
        omega
      rw [List.length_map] at g1
      refine ⟨by show 2 ≤ sizeLine; decide, fun L2' nL2 => ?_⟩
      have rL2 := R6.ne nL2
      have el6 := o6 _ _ nr el
      have eF6 := o6 _ _ rF.symm eF
      have lL2 : l ≠ L2' := ne_of_none el6 nL2
      have FL2 : F ≠ L2' := ne_of_none eF6 nL2
      refine ⟨.ref r, rfl, r, 2, rfl, R6.new nL2, by decide, by decide, fun H7 g2 o7 R7 a0 a1 => ?_⟩
      obtain ⟨v, hv, hvat⟩ : ∃ v : Int, (0 ≤ v ∧ v < ls.length) ∧ atI [V.int 0, V.int g] g2 = some (.int v) := by
        rcases two_at (a := V.int 0) (b := V.int g) a0 a1 with ⟨_, h⟩ | ⟨_, h⟩
        · exact ⟨0, ⟨by decide, by omega⟩, h⟩
        · exact ⟨g, ⟨g0, g1⟩, h⟩
      have hk : v.toNat < ls.length := by omega
      have el7 : H7 l = some (.lst (vs_ ls)) := o7 _ _ nr (by rw [upd_ne lL2]; exact el6)
      have eF7 : H7 F = some (.lst (vs_ ys)) := o7 _ _ rF.symm (by rw [upd_ne FL2]; exact eF6)
      have eL7 := o7 _ _ rL2.symm (upd_same (H := H6) (a := L2') (o := .lst [V.int 0, V.int g]))
      have fL2 : H L2' = none := (o5.trans o6).free rL2 nL2
      have o57 : Off r H H7 := ((o5.trans o6).mut fL2).trans o7
      refine ⟨L2', _, g2, .int v, rfl, rfl, .inl (.inl eL7), hvat, l, _, v, v.toNat, .str (sg ls[v.toNat]), rfl, rfl, el7, by omega, by omega, ?_, ?_, ?_⟩
      · rw [List.length_map]
        exact seqIx hv.1 hv.2
      · rw [List.getElem?_map, List.getElem?_eq_getElem hk]
        rfl
      · refine ⟨F, _, _, rfl, rfl, by rw [upd_ne lF.symm]; exact eF7, ?_, ls.eraseIdx v.toNat, ys ++ [ls[v.toNat]], _, (R7.upd nr.symm).upd rF, (o57.mut fl).mut fF, ?_, ?_, LF.pop _ hk, rfl⟩
        · rw [List.length_map, LF.yl]
          exact sl6 _ (by omega)
        · rw [upd_ne lF, upd_same, vs_erase]
        · rw [upd_same, vs_snoc]
    · obtain ⟨ls, ys, y5, R5, o5, el, eF, LF, rfl⟩ := hW
      have hy : ys.length ≤ 5 := by
        rw [LF.yl]
        omega
      have hyn : ys.length = m + 1 := by
        rw [LF.yl]
        omega
      refine ⟨⟨_, rfl⟩, .ref F, rfl, F, ys.map sg, rfl, .inl (.inl (by rw [List.map_map]; exact eF)), by rw [List.length_map]; omega, fun zs p6 perm srt n6 => ?_⟩
      obtain ⟨ds, rfl, pd⟩ := perm_sg perm
      have f6 : H p6 = none := o5.free (R5.ne n6) n6
      have hdn : ds.length = ys.length := pd.length_eq
      refine ⟨⟨#[]⟩, p6, ds.map sg, rfl, rfl, .inl (.inl (.inl upd_same)), ?_, ?_⟩
      · rw [List.length_map, List.map_map]
        have : (ds.map ((fun x : Str => x.length) ∘ sg)).sum = ds.length := by
          rw [show ((fun x : Str => x.length) ∘ sg) = fun _ => 1 from rfl, List.map_const', List.sum_replicate_nat]
          omega
        rw [this]
        show ds.length + ds.length * 0 ≤ 16777216
        omega
      · rw [join_sg]
        have nd : ds.Nodup := pd.symm.nodup (List.Nodup.sublist (List.sublist_append_left ys ls) LF.nd)
        refine q _ _ (o5.mut f6) (R5.new n6) ⟨?_, ?_, ?_, fun c hc => ?_⟩
        · show 1 ≤ ds.toArray.size
          rw [List.size_toArray]
          omega
        · show ds.toArray.size ≤ 5
          rw [List.size_toArray]
          omega
        · exact rise_of (sortedS_sg srt) nd
        · exact LF.sm c (List.mem_append_left _ (pd.mem_iff.mp hc))
end
end LH

namespace LH
open PySem PySem.Spec PyProof.Rows L2
section
variable {P : Program} {w : World} {K : PySem.W.Frag} {mg : Str → Option Value} {base : Heap}
/-! ### _law_machine -/
def sp_law_machine : Sp := fun vs H Q _ => ∃ (r : Addr) (z : Str) (most : Nat), vs = [.ref r, .str z, .int (most : Int)] ∧ RowAt H r ∧ IsLet z ∧ 1 ≤ most ∧ most ≤ 100 ∧
  ∀ H' p (M : Mach), Off r H H' → RowAt H' r → MachAt H' p M → M.Ok → M.z = z → M.rows.length ≤ most → Q (.ref p) H'
theorem ok_law_machine (T : TX K mg) : FnOk P w K mg base CX0 2 T.a_law_machine T.fd_law_machine ["draws", "letters", "most"] sp_law_machine := by
  have G_law_take : FnOk P w K mg base CX0 1 T.a_law_take T.fd_law_take ["draws", "many"] sp_law_take := ok_law_take T
  refine T.F_law_machine.ok sc_law_machine (fun vs H Q E h => ?_) (fun cdv A outer s H vs Q E hr h => ?_)
  · obtain ⟨r, z, most, rfl, _⟩ := h
    rfl
  · obtain ⟨r, z, most, rfl, hR, hz, hm1, hm2, q⟩ := h
    refine ⟨_, (pss_cons (ps_set (i := 3) sc_law_machine.nd rfl (Or.inr rfl) (pe_op op_add pe_int (pe_call G_law_take (hr.mono (by decide)) (by rfl) T.g_law_take T.F_law_take.kp T.b_law_take .nil pass0 (pa_cons (pv 0) (pa_cons (pv 2) pa_nil)))))
      (pss_cons (ps_set (i := 4) sc_law_machine.nd rfl (Or.inl rfl) (pe_lst pa_nil))
      (pss_cons (ps_for PassesOwn.never rfl (pi_range1 (by rfl) T.m_range (pa_cons (pv 3) pa_nil)) (pg_name (i := 5) sc_law_machine.nd rfl (Or.inr rfl))
        (pss_cons (ps_setLc (i := 6) (own := [("letter", 8)]) (g := gName 8) (tt := tYes) (by rfl) sc_law_machine.nd rfl rfl (sw_true rfl rfl rfl (by decide +kernel)) (pi_str (pv 1)) (blkOk_by (own := [("letter", 8)]) (N := N_law_machine) (by kernel_rfl)) (fun _ _ _ _ _ => (pg_name (i := 8) sc_law_machine.nd rfl (by first | exact Or.inl rfl | exact Or.inr rfl))) (fun _ _ _ _ _ => pts_nil) (fun _ _ _ _ _ => (pe_ix (ix_listK K rfl) (pe_lst (pa_cons (pe_call G_law_take (hr.mono (by decide)) (by rfl) T.g_law_take T.F_law_take.kp T.b_law_take .nil pass0 (pa_cons (pv 0) (pa_cons (pv 3) pa_nil))) (pa_cons (pe_callB (call_min2 rfl) (by rfl) T.m_min (by decide +kernel) (pa_cons (pe_op op_sub (pv 3) pe_int) (pa_cons (pe_op op_add (pv 5) pe_int) pa_nil))) pa_nil))) (pe_call G_law_take (hr.mono (by decide)) (by rfl) T.g_law_take T.F_law_take.kp T.b_law_take .nil pass0 (pa_cons (pv 0) (pa_cons pe_int pa_nil))) (fun _ _ => rfl))))
          (pss_one (ps_expr (pe_bmK K rfl PySem.F.plainAttrs_list PySem.F.slot_list_append PySem.F.type_list_append mt_append (pv 4) (pa_cons (pe_callTy (call_tupleK K rfl) (by rfl) T.m_tuple (by decide +kernel) (pa_cons (pv 6) pa_nil)) pa_nil))))))
      (pss_cons (ps_set (i := 7) sc_law_machine.nd rfl (Or.inl rfl) (pe_callTy (call_tupleK K rfl) (by rfl) T.m_tuple (by decide +kernel) (pa_cons (pe_lc (own := [("k", 5)]) (g := gName 5) (by rfl) sc_law_machine.nd (pi_range1 (by rfl) T.m_range (pa_cons (pv 3) pa_nil)) (blkOk_by (own := [("k", 5)]) (N := N_law_machine) (by kernel_rfl)) (fun _ _ _ _ _ => (pg_name (i := 5) sc_law_machine.nd rfl (by first | exact Or.inl rfl | exact Or.inr rfl))) (fun _ _ _ _ _ => (pts_one (pt_cmpR op_eq (pe_call G_law_take (hr.mono (by decide)) (by rfl) T.g_law_take T.F_law_take.kp T.b_law_take .nil pass0 (pa_cons (pv 0) (pa_cons pe_int pa_nil))) pe_int (nomark _)))) (fun _ _ _ _ _ => (pv 5))) pa_nil)))
      (pss_one (ps_ret (pe_tup (pa_cons (pv 1) (pa_cons (pe_callTy (call_tupleK K rfl) (by rfl) T.m_tuple (by decide +kernel) (pa_cons (pv 4) pa_nil)) (pa_cons (pv 7) pa_nil)))))))))), ?_⟩
    have h5 := hz.five
    refine ⟨.ref r, rfl, .int (most : Int), rfl, r, (most : Int), rfl, hR, by omega, by omega, fun H1 g o1 R1 g0 g1 => ?_⟩
    obtain ⟨m, rfl⟩ : ∃ m : Nat, g = (m : Int) := ⟨g.toNat, by omega⟩
    refine ⟨1, (m : Int), rfl, rfl, ?_⟩
    -- table
    refine ⟨by show 0 ≤ sizeLine; decide, fun D nD => ?_⟩
    have fD : H D = none := o1.free (R1.ne nD) nD
    have rD : r ≠ D := R1.ne nD
    refine ⟨.int (1 + m), rfl, 1 + m, rfl, by omega, by omega, ?_⟩
    refine for_range (lo := 0) (n := (1 + (m : Int)).toNat) (fun i σ H' => (∃ as rows, RowAt H' r ∧ Off r H H' ∧ H' D = some (.lst (vr as)) ∧ RowsAt H' as rows ∧ rows.length = i ∧ ∀ row ∈ rows, row.length = z.length ∧ ∀ t ∈ row, t < m + 1) ∧ ∃ y5 y6, σ = [some (.ref r), some (.str z), some (.int (most : Int)), some (.int (1 + m)), some (.ref D), y5, y6, none, none]) ⟨⟨[], [], R1.new nD, o1.mut fD, upd_same, ⟨rfl, fun i a row x => by simp at x⟩, rfl, fun _ h => nomatch h⟩, none, none, rfl⟩ (fun i σ H2 hi hW => ?_) (fun σ H2 hW => ?_)
    · obtain ⟨⟨as, rows, R2, o2, e2, ra, rl, ro⟩, y5, y6, rfl⟩ := hW
      have hi : i < m + 1 := by omega
      refine ⟨.str z, rfl, z, rfl, fun D2 n2 => ?_⟩
      have f2 : H D2 = none := o2.free (R2.ne n2) n2
      have r2 : r ≠ D2 := R2.ne n2
      have d2 : D ≠ D2 := ne_of_none e2 n2
      refine lc_it walk_str (fun j H' => ∃ row, RowAt H' r ∧ Off r H H' ∧ H' D = some (.lst (vr as)) ∧ RowsAt H' as rows ∧ H' D2 = some (.lst (vi row)) ∧ row.length = j ∧ ∀ t ∈ row, t < m + 1) ⟨[], R2.new n2, o2.mut f2, by rw [upd_ne d2]; exact e2, ra.mono (Tups.new n2), upd_same, rfl, fun _ h => nomatch h⟩ (fun _ _ _ _ => trivial) (fun j x H3 H3' hj hW hY => ?_) (fun H3 hW => ?_)
      · obtain ⟨row, R3, o3, e3, ra3, w3, l3, t3⟩ := hW
        obtain ⟨rfl, c, hc, rfl⟩ := hY
        refine ⟨rfl, lcyes ?_⟩
        refine ⟨.ref r, rfl, .int (1 + m), rfl, r, 1 + (m : Int), rfl, R3, by omega, by omega, fun H4 g o4 R4 a0 a1 => ?_⟩
        obtain ⟨k, rfl⟩ : ∃ k : Nat, g = (k : Int) := ⟨g.toNat, by omega⟩
        refine ⟨.int (1 + m), rfl, _, 1, rfl, rfl, .int (0 + (i : Int)), rfl, _, 1, rfl, rfl, _, _, rfl, ?_⟩
        obtain ⟨u, hu, hul⟩ : ∃ u : Nat, (if (0 + (i : Int)) + 1 < 1 + (m : Int) - 1 then (0 + (i : Int)) + 1 else 1 + (m : Int) - 1) = (u : Int) ∧ u < m + 1 := by
          by_cases h : (0 + (i : Int)) + 1 < 1 + (m : Int) - 1
          · exact ⟨i + 1, by rw [if_pos h]; omega, by omega⟩
          · exact ⟨m, by rw [if_neg h]; omega, by omega⟩
        rw [hu]
        refine ⟨by show 2 ≤ sizeLine; decide, fun L nL => ?_⟩
        have w4 := o4 _ _ r2.symm w3
        have e4 := o4 _ _ rD.symm e3
        have rL := R4.ne nL
        have fL : H L = none := (o3.trans o4).free rL nL
        have wL : D2 ≠ L := ne_of_none w4 nL
        have eDL : D ≠ L := ne_of_none e4 nL
        have ra4 := ((ra3.mono (Tups.off R3 o4)).mono (Tups.new (o := .lst [V.int (k : Int), V.int (u : Int)]) nL))
        refine ⟨.ref r, rfl, r, 2, rfl, R4.new nL, by decide, by decide, fun H5 g2 o5 R5 b0 b1 => ?_⟩
        obtain ⟨v, hv, hvat⟩ : ∃ v : Nat, v < m + 1 ∧ atI [V.int (k : Int), V.int (u : Int)] g2 = some (.int (v : Int)) := by
          rcases two_at (a := V.int (k : Int)) (b := V.int (u : Int)) b0 b1 with ⟨_, h⟩ | ⟨_, h⟩
          · exact ⟨k, by omega, h⟩
          · exact ⟨u, hul, h⟩
        have eL5 := o5 _ _ rL.symm (upd_same (H := H4) (a := L) (o := .lst [V.int (k : Int), V.int (u : Int)]))
        have w5 : H5 D2 = some (.lst (vi row)) := o5 _ _ r2.symm (by rw [upd_ne wL]; exact w4)
        have e5 : H5 D = some (.lst (vr as)) := o5 _ _ rD.symm (by rw [upd_ne eDL]; exact e4)
        have ra5 := ra4.mono (Tups.off (R4.new nL) o5)
        refine ⟨L, _, g2, .int (v : Int), rfl, rfl, .inl (.inl eL5), hvat, vi row, w5, ?_, row ++ [v], R5.upd r2, (((o3.trans o4).mut fL).trans o5).mut f2, ?_, ?_, ?_, ?_, mem_snoc t3 hv⟩
        · rw [List.length_map, l3]
          refine sl6 _ ?_
          have : j < z.length := hj
          omega
        · rw [upd_ne d2]
          exact e5
        · exact ra5.mono (Tups.lst w5)
        · rw [upd_same, vi_snoc]
        · rw [List.length_append, l3]
          rfl
      · obtain ⟨row, R3, o3, e3, ra3, w3, l3, t3⟩ := hW
        refine ⟨.ref D, rfl, .inl ⟨rfl, _, .inl (.inl e3)⟩, .ref D2, rfl, D2, _, rfl, .inl ⟨.inl (.inl w3), fun p4 n4 => ?_⟩⟩
        have f4 : H p4 = none := o3.free (R3.ne n4) n4
        have d4 : D ≠ p4 := ne_of_none e3 n4
        have ha : (L2.upd H3 p4 (.tup (vi row))) p4 = some (.tup (vi row)) := upd_same
        refine ⟨D, _, _, rfl, rfl, by rw [upd_ne d4]; exact e3, ?_, ⟨as ++ [p4], rows ++ [row], (R3.new n4).upd rD, (o3.mut f4).mut fD, ?_, ?_, ?_, mem_snoc ro ⟨l3, t3⟩⟩, _, _, rfl⟩
        · rw [List.length_map, ra3.1, rl]
          exact sl6 _ (by omega)
        · rw [upd_same, vr_snoc]
        · exact ((ra3.mono (Tups.new n4)).snoc ha).mono (Tups.lst (xs := vr as) (by rw [upd_ne d4]; exact e3))
        · rw [List.length_append, rl]
          rfl
    · obtain ⟨⟨as, rows, R2, o2, e2, ra, rl, ro⟩, y5, y6, rfl⟩ := hW
      have hrl : rows.length = m + 1 := by
        rw [rl]
        omega
      -- ends
      refine ⟨.int (1 + m), rfl, 1 + m, rfl, by omega, by omega, fun D2 n2 => ?_⟩
      have f2 : H D2 = none := o2.free (R2.ne n2) n2
      have r2 : r ≠ D2 := R2.ne n2
      have d2 : D ≠ D2 := ne_of_none e2 n2
      refine lc_range (lo := 0) (n := (1 + (m : Int)).toNat) (fun i H' => ∃ es, RowAt H' r ∧ Off r H H' ∧ H' D = some (.lst (vr as)) ∧ RowsAt H' as rows ∧ H' D2 = some (.lst (vi es)) ∧ es.length ≤ i ∧ (∀ e ∈ es, e < i) ∧ es.Pairwise (· < ·)) ⟨[], R2.new n2, o2.mut f2, by rw [upd_ne d2]; exact e2, ra.mono (Tups.new n2), upd_same, Nat.le_refl _, (fun _ h => nomatch h), List.Pairwise.nil⟩ (fun i H3 hi hW => ?_) (fun H3 hW => ?_)
      · obtain ⟨es, R3, o3, e3, ra3, w3, l3, t3, p3⟩ := hW
        refine ⟨rfl, .ref r, rfl, r, 3, rfl, R3, by decide, by decide, fun H4 g o4 R4 a0 a1 => ⟨rfl, _, rfl, ite2 (fun _ => ?_) (fun _ => ?_)⟩⟩
        · refine ⟨.int (0 + (i : Int)), rfl, vi es, o4 _ _ r2.symm w3, ?_, es ++ [i], R4.upd r2, (o3.trans o4).mut f2, ?_, ?_, ?_, ?_, mem_snoc (fun y hy => Nat.lt_succ_of_lt (t3 y hy)) (Nat.lt_succ_self i), ?_⟩
          · rw [List.length_map]
            exact sl6 _ (by omega)
          · rw [upd_ne d2]
            exact o4 _ _ rD.symm e3
          · exact (ra3.mono (Tups.off R3 o4)).mono (Tups.lst (o4 _ _ r2.symm w3))
          · rw [upd_same, Int.zero_add, vi_snoc]
          · rw [List.length_append]
            show es.length + 1 ≤ i + 1
            omega
          · refine List.pairwise_append.mpr ⟨p3, by simp, fun a ha b hb => ?_⟩
            rw [List.mem_singleton.mp hb]
            exact t3 a ha
        · exact ⟨es, R4, o3.trans o4, o4 _ _ rD.symm e3, ra3.mono (Tups.off R3 o4), o4 _ _ r2.symm w3, by omega, fun y hy => Nat.lt_succ_of_lt (t3 y hy), p3⟩
      · obtain ⟨es, R3, o3, e3, ra3, w3, l3, t3, p3⟩ := hW
        refine ⟨D2, _, rfl, .inl ⟨.inl (.inl w3), fun p5 n5 => ?_⟩⟩
        have f5 : H p5 = none := o3.free (R3.ne n5) n5
        have e5 : (L2.upd H3 p5 (.tup (vi es))) D = some (.lst (vr as)) := by
          rw [upd_ne (ne_of_none e3 n5)]
          exact e3
        refine ⟨.str z, rfl, .ref D, rfl, D, _, rfl, .inl ⟨.inl (.inl e5), fun p4 n4 => ?_⟩⟩
        have R5 := R3.new (o := .tup (vi es)) n5
        have R4 := R5.new (o := .tup (vr as)) n4
        have f4 : H p4 = none := (o3.mut f5).free (R5.ne n4) n4
        refine ⟨.ref p5, rfl, by show 3 ≤ sizeLine; decide, fun p6 n6 => ?_⟩
        have f6 : H p6 = none := ((o3.mut f5).mut f4).free (R4.ne n6) n6
        have t4 : Tups H3 (L2.upd (L2.upd (L2.upd H3 p5 (.tup (vi es))) p4 (.tup (vr as))) p6 (.tup [.str z, .ref p4, .ref p5])) := ((Tups.new n5).trans (Tups.new n4)).trans (Tups.new n6)
        refine q _ p6 ⟨z, rows, es⟩ (((o3.mut f5).mut f4).mut f6) (R4.new n6) ⟨p4, p5, as, upd_same, ?_, ra3.mono t4, ?_⟩ ⟨hz, by show 1 ≤ rows.length; omega, ?_, ?_, p3⟩ rfl (by show rows.length ≤ most; omega)
        · exact (Tups.new n6) _ _ upd_same
        · exact ((Tups.new n4).trans (Tups.new n6)) _ _ upd_same
        · intro row hrow
          have := ro row hrow
          refine ⟨this.1, fun t ht => ?_⟩
          have := this.2 t ht
          show t < rows.length
          omega
        · intro e he
          have := t3 e he
          show e < rows.length
          omega
end
end LH

namespace LH
open PySem PySem.Spec PyProof.Rows L2
section
variable {P : Program} {w : World} {K : PySem.W.Frag} {mg : Str → Option Value} {base : Heap}
/-! ### _law_far_machine -/
def sp_law_far_machine : Sp := fun vs H Q _ => ∃ (r : Addr) (z : Str) (a b : Nat), vs = [.ref r, .str z, .str (sg a), .str (sg b)] ∧ RowAt H r ∧ IsLet z ∧ 2 ≤ z.length ∧
  ∀ H' p (M : Mach), Off r H H' → RowAt H' r → MachAt H' p M → M.Ok → M.z = z → M.rows.length ≤ 60 → Q (.ref p) H'
theorem ok_law_far_machine (T : TX K mg) : FnOk P w K mg base CX0 2 T.a_law_far_machine T.fd_law_far_machine ["draws", "letters", "one", "other"] sp_law_far_machine := by
  have G_law_take : FnOk P w K mg base CX0 1 T.a_law_take T.fd_law_take ["draws", "many"] sp_law_take := ok_law_take T
  refine T.F_law_far_machine.ok sc_law_far_machine (fun vs H Q E h => ?_) (fun cdv A outer s H vs Q E hr h => ?_)
  · obtain ⟨r, z, a, b, rfl, _⟩ := h
    rfl
  · obtain ⟨r, z, a, b, rfl, hR, hz, hz2, q⟩ := h
    refine ⟨_, (pss_cons (ps_set (i := 4) sc_law_far_machine.nd rfl (Or.inl rfl) (pe_op op_add pe_int (pe_call G_law_take (hr.mono (by decide)) (by rfl) T.g_law_take T.F_law_take.kp T.b_law_take .nil pass0 (pa_cons (pv 0) (pa_cons pe_int pa_nil)))))
      (pss_cons (ps_set (i := 5) sc_law_far_machine.nd rfl (Or.inl rfl) (pe_lst (pa_cons (pe_call G_law_take (hr.mono (by decide)) (by rfl) T.g_law_take T.F_law_take.kp T.b_law_take .nil pass0 (pa_cons (pv 0) (pa_cons (pe_op op_sub (pv 4) pe_int) pa_nil))) (pa_cons (pe_call G_law_take (hr.mono (by decide)) (by rfl) T.g_law_take T.F_law_take.kp T.b_law_take .nil pass0 (pa_cons (pv 0) (pa_cons (pe_op op_sub (pv 4) pe_int) pa_nil))) pa_nil))))
      (pss_cons (ps_set (i := 6) sc_law_far_machine.nd rfl (Or.inl rfl) (pe_lst pa_nil))
      (pss_cons (ps_for PassesOwn.never rfl (pi_range1 (by rfl) T.m_range (pa_cons (pe_op op_sub (pv 4) pe_int) pa_nil)) (pg_name (i := 7) sc_law_far_machine.nd rfl (Or.inl rfl))
        (pss_cons (ps_set (i := 8) sc_law_far_machine.nd rfl (Or.inl rfl) (pe_lst pa_nil))
          (pss_cons (ps_for PassesOwn.never rfl (pi_str (pv 1)) (pg_name (i := 9) sc_law_far_machine.nd rfl (Or.inl rfl))
            (pss_cons (ps_set (i := 10) sc_law_far_machine.nd rfl (Or.inl rfl) (LU.pe_midU (pe_and (pe_cmpR (op_notIn_seqK K rfl) (pv 9) (pe_tup (pa_cons (pv 2) (pa_cons (pv 3) pa_nil))) (by rfl)) (pe_one (pe_cmpR (op_notIn_seqK K rfl) (pv 7) (pv 5) (by rfl))))))
              (pss_cons (ps_set (i := 10) sc_law_far_machine.nd rfl (Or.inl rfl) (LU.pe_midU (pe_or (pv 10) (pe_or (pe_and (pe_cmpR op_eq (pv 9) (pv 2) (nomark _)) (pe_one (pe_cmpR op_eq (pv 7) (pe_ix (ix_listK K rfl) (pv 5) pe_int (fun _ _ => rfl)) (nomark _)))) (pe_one (pe_and (pe_cmpR op_eq (pv 9) (pv 3) (nomark _)) (pe_one (pe_cmpR op_eq (pv 7) (pe_ix (ix_listK K rfl) (pv 5) pe_int (fun _ _ => rfl)) (nomark _)))))))))
              (pss_one (ps_expr (pe_bmK K rfl PySem.F.plainAttrs_list PySem.F.slot_list_append PySem.F.type_list_append mt_append (pv 8) (pa_cons (pe_ix (ix_listK K rfl) (pe_lst (pa_cons (pe_op op_sub (pv 4) pe_int) (pa_cons (pe_op op_add (pv 7) pe_int) pa_nil))) (pe_callTy call_int1 (by rfl) T.m_int (by decide +kernel) (pa_cons (pv 10) pa_nil)) (fun _ _ => rfl)) pa_nil)))))))
          (pss_one (ps_expr (pe_bmK K rfl PySem.F.plainAttrs_list PySem.F.slot_list_append PySem.F.type_list_append mt_append (pv 6) (pa_cons (pe_callTy (call_tupleK K rfl) (by rfl) T.m_tuple (by decide +kernel) (pa_cons (pv 8) pa_nil)) pa_nil)))))))
      (pss_cons (ps_expr (pe_bmK K rfl PySem.F.plainAttrs_list PySem.F.slot_list_append PySem.F.type_list_append mt_append (pv 6) (pa_cons (pe_op op_repT (pe_tup (pa_cons (pe_op op_sub (pv 4) pe_int) pa_nil)) (pe_callB call_len_str (by rfl) T.m_len (by decide +kernel) (pa_cons (pv 1) pa_nil))) pa_nil)))
      (pss_one (ps_ret (pe_tup (pa_cons (pv 1) (pa_cons (pe_callTy (call_tupleK K rfl) (by rfl) T.m_tuple (by decide +kernel) (pa_cons (pv 6) pa_nil)) (pa_cons (pe_tup (pa_cons (pe_op op_sub (pv 4) pe_int) pa_nil)) pa_nil))))))))))), ?_⟩
    have h5 := hz.five
    refine ⟨.ref r, rfl, r, 46, rfl, hR, by decide, by decide, fun H1 g o1 R1 g0 g1 => ?_⟩
    obtain ⟨m, rfl⟩ : ∃ m : Nat, g = (m : Int) := ⟨g.toNat, by omega⟩
    refine ⟨15, (m : Int), rfl, rfl, ?_⟩
    -- spots
    refine ⟨.ref r, rfl, .int (15 + m), rfl, _, 2, rfl, rfl, r, 15 + (m : Int) - 2, rfl, R1, by omega, by omega, fun H2 s1 o2 R2 _ _ => ?_⟩
    refine ⟨.ref r, rfl, .int (15 + m), rfl, _, 2, rfl, rfl, r, 15 + (m : Int) - 2, rfl, R2, by omega, by omega, fun H3 s2 o3 R3 _ _ => ?_⟩
    refine ⟨by show 2 ≤ sizeLine; decide, fun S nS => ?_⟩
    have o13 := (o1.trans o2).trans o3
    have rS := R3.ne nS
    have fS : H S = none := o13.free rS nS
    have eS : (L2.upd H3 S (.lst [.int s1, .int s2])) S = some (.lst [.int s1, .int s2]) := upd_same
    have R4 := R3.new (o := .lst [.int s1, .int s2]) nS
    have o4 : Off r H (L2.upd H3 S (.lst [.int s1, .int s2])) := o13.mut fS
    generalize L2.upd H3 S (.lst [.int s1, .int s2]) = H4 at eS R4 o4
    -- table
    refine ⟨by show 0 ≤ sizeLine; decide, fun D nD => ?_⟩
    have fD : H D = none := o4.free (R4.ne nD) nD
    have rD : r ≠ D := R4.ne nD
    have SD_ : S ≠ D := ne_of_none eS nD
    refine ⟨.int (15 + m), rfl, _, 1, rfl, rfl, 15 + (m : Int) - 1, rfl, by omega, by omega, ?_⟩
    refine for_range (lo := 0) (n := (15 + (m : Int) - 1).toNat) (fun i σ H' => (∃ as rows, RowAt H' r ∧ Off r H H' ∧ H' S = some (.lst [.int s1, .int s2]) ∧ H' D = some (.lst (vr as)) ∧ RowsAt H' as rows ∧ rows.length = i ∧ ∀ row ∈ rows, row.length = z.length ∧ ∀ t ∈ row, t < m + 15) ∧ ∃ y7 y8 y9 y10, σ = [some (.ref r), some (.str z), some (.str (sg a)), some (.str (sg b)), some (.int (15 + m)), some (.ref S), some (.ref D), y7, y8, y9, y10]) ⟨⟨[], [], R4.new nD, o4.mut fD, by rw [upd_ne SD_]; exact eS, upd_same, ⟨rfl, fun i a row x => by simp at x⟩, rfl, fun _ h => nomatch h⟩, none, none, none, none, rfl⟩ (fun i σ H5 hi hW => ?_) (fun σ H5 hW => ?_)
    · obtain ⟨⟨as, rows, R5, o5, eS5, e5, ra, rl, ro⟩, y7, y8, y9, y10, rfl⟩ := hW
      have hi : i < m + 14 := by omega
      have i0 : (0 : Int) + (i : Int) = (i : Int) := Int.zero_add _
      rw [i0]
      -- row
      refine ⟨by show 0 ≤ sizeLine; decide, fun D2 n2 => ?_⟩
      have f2 : H D2 = none := o5.free (R5.ne n2) n2
      have r2 : r ≠ D2 := R5.ne n2
      have d2 : D ≠ D2 := ne_of_none e5 n2
      have s2D : S ≠ D2 := ne_of_none eS5 n2
      refine ⟨.str z, rfl, z, rfl, ?_⟩
      refine for_it walk_str (fun j σ H' => (∃ row, RowAt H' r ∧ Off r H H' ∧ H' S = some (.lst [.int s1, .int s2]) ∧ H' D = some (.lst (vr as)) ∧ RowsAt H' as rows ∧ H' D2 = some (.lst (vi row)) ∧ row.length = j ∧ ∀ t ∈ row, t < m + 15) ∧ ∃ y9 y10, σ = [some (.ref r), some (.str z), some (.str (sg a)), some (.str (sg b)), some (.int (15 + m)), some (.ref S), some (.ref D), some (.int (i : Int)), some (.ref D2), y9, y10]) ⟨⟨[], R5.new n2, o5.mut f2, by rw [upd_ne s2D]; exact eS5, by rw [upd_ne d2]; exact e5, ra.mono (Tups.new n2), upd_same, rfl, fun _ h => nomatch h⟩, y9, y10, rfl⟩ (fun _ _ _ _ _ => trivial) (fun j x σ H6 H6' hj hW hY => ?_) (fun σ H6 hW => ?_)
      · obtain ⟨⟨row, R6, o6, eS6, e6, ra6, w6, l6, t6⟩, y9, y10, rfl⟩ := hW
        obtain ⟨rfl, c, hc, rfl⟩ := hY
        have hj : j < z.length := hj
        refine ⟨fun v H' => (∃ k : Bool, v = .bl k) ∧ Same H6' H', ?_, fun v H7 hv => ?_⟩
        · refine ⟨.str (sg c), rfl, .str (sg a), rfl, .str (sg b), rfl, by show 2 ≤ sizeLine; decide, fun t nt => ?_⟩
          have st := same_new (o := .tup [.str (sg a), .str (sg b)]) nt
          refine ⟨t, _, rfl, .inr (.inl (.inl upd_same)), rfl, rfl, _, rfl, ite2 (fun _ => ?_) (fun _ => ?_)⟩
          · exact ⟨.int (i : Int), rfl, .ref S, rfl, S, _, rfl, .inl (.inl (.inl (st _ _ eS6))), rfl, rfl, ⟨_, rfl⟩, st⟩
          · exact ⟨⟨_, rfl⟩, st⟩
        obtain ⟨⟨k1, rfl⟩, s7⟩ := hv
        refine ⟨fun v H' => (∃ k : Bool, v = .bl k) ∧ Same H7 H', ?_, fun v H8 hv => ?_⟩
        · refine ⟨.bl k1, rfl, _, rfl, ite2 (fun _ => ⟨⟨_, rfl⟩, Same.refl _⟩) (fun _ => ?_)⟩
          have eS7 := s7 _ _ eS6
          refine ⟨.str (sg c), rfl, .str (sg a), rfl, rfl, _, rfl, ite2 (fun _ => ?_) (fun _ => ?_)⟩
          · refine ⟨.int (i : Int), rfl, .ref S, rfl, S, _, 0, .int s1, rfl, rfl, .inl (.inl eS7), atI_nat (j := 0) rfl, rfl, _, rfl, ite2 (fun _ => ⟨⟨_, rfl⟩, Same.refl _⟩) (fun _ => ?_)⟩
            refine ⟨.str (sg c), rfl, .str (sg b), rfl, rfl, _, rfl, ite2 (fun _ => ?_) (fun _ => ⟨⟨_, rfl⟩, Same.refl _⟩)⟩
            exact ⟨.int (i : Int), rfl, .ref S, rfl, S, _, 1, .int s2, rfl, rfl, .inl (.inl eS7), atI_nat (j := 1) rfl, rfl, ⟨_, rfl⟩, Same.refl _⟩
          · refine ⟨_, rfl, ite2 (fun z => nomatch z) (fun _ => ?_)⟩
            refine ⟨.str (sg c), rfl, .str (sg b), rfl, rfl, _, rfl, ite2 (fun _ => ?_) (fun _ => ⟨⟨_, rfl⟩, Same.refl _⟩)⟩
            exact ⟨.int (i : Int), rfl, .ref S, rfl, S, _, 1, .int s2, rfl, rfl, .inl (.inl eS7), atI_nat (j := 1) rfl, rfl, ⟨_, rfl⟩, Same.refl _⟩
        obtain ⟨⟨k2, rfl⟩, s8⟩ := hv
        have s68 := s7.trans s8
        have R8 := R6.same s68
        have w8 := s68 _ _ w6
        refine ⟨.ref D2, rfl, .inl ⟨rfl, _, .inl (.inl w8)⟩, .int (15 + m), rfl, _, 1, rfl, rfl, .int (i : Int), rfl, _, 1, rfl, rfl, by show 2 ≤ sizeLine; decide, fun L nL => ?_⟩
        have sL := same_new (o := .lst [V.int (15 + (m : Int) - 1), V.int ((i : Int) + 1)]) nL
        obtain ⟨v, hv, hvat⟩ : ∃ v : Nat, v < m + 15 ∧ atI [V.int (15 + (m : Int) - 1), V.int ((i : Int) + 1)] (if k2 = true then 1 else 0) = some (.int (v : Int)) := by
          cases k2
          · exact ⟨m + 14, by omega, by rw [show ((m + 14 : Nat) : Int) = 15 + (m : Int) - 1 by omega]; exact atI_nat (j := 0) rfl⟩
          · exact ⟨i + 1, by omega, atI_nat (j := 1) rfl⟩
        have w9 := sL _ _ w8
        have s69 := s68.trans sL
        refine ⟨.bl k2, rfl, .inr ⟨k2, rfl, L, _, _, .int (v : Int), rfl, rfl, .inl (.inl upd_same), hvat, D2, _, _, rfl, rfl, w9, ?_, ⟨row ++ [v], (R8.new nL).upd r2, (o6.trans (Off.of s69)).mut f2, ?_, ?_, ?_, ?_, ?_, mem_snoc t6 hv⟩, _, _, rfl⟩⟩
        · rw [List.length_map, l6]
          exact LH.sl6 _ (by omega)
        · rw [upd_ne s2D]
          exact s69 _ _ eS6
        · rw [upd_ne d2]
          exact s69 _ _ e6
        · exact (ra6.mono (Tups.same s69)).mono (Tups.lst w9)
        · rw [upd_same, vi_snoc]
        · rw [List.length_append, l6]
          rfl
      · obtain ⟨⟨row, R3, o3, eS3, e3, ra3, w3, l3, t3⟩, y9, y10, rfl⟩ := hW
        refine ⟨.ref D, rfl, .inl ⟨rfl, _, .inl (.inl e3)⟩, .ref D2, rfl, D2, _, rfl, .inl ⟨.inl (.inl w3), fun p4 n4 => ?_⟩⟩
        have f4 : H p4 = none := o3.free (R3.ne n4) n4
        have d4 : D ≠ p4 := ne_of_none e3 n4
        have ha : (L2.upd H6 p4 (.tup (vi row))) p4 = some (.tup (vi row)) := upd_same
        refine ⟨D, _, _, rfl, rfl, by rw [upd_ne d4]; exact e3, ?_, ⟨as ++ [p4], rows ++ [row], (R3.new n4).upd rD, (o3.mut f4).mut fD, ?_, ?_, ?_, ?_, mem_snoc ro ⟨l3, t3⟩⟩, _, _, _, _, rfl⟩
        · rw [List.length_map, ra3.1, rl]
          exact sl6 _ (by omega)
        · rw [upd_ne SD_, upd_ne (ne_of_none eS3 n4)]
          exact eS3
        · rw [upd_same, vr_snoc]
        · exact ((ra3.mono (Tups.new n4)).snoc ha).mono (Tups.lst (xs := vr as) (by rw [upd_ne d4]; exact e3))
        · rw [List.length_append, rl]
          rfl
    · obtain ⟨⟨as, rows, R5, o5, eS5, e5, ra, rl, ro⟩, y7, y8, y9, y10, rfl⟩ := hW
      have rl : rows.length = m + 14 := by omega
      have nm : (15 : Int) + (m : Int) - 1 = ((m + 14 : Nat) : Int) := by omega
      -- the last row
      refine ⟨.ref D, rfl, .inl ⟨rfl, _, .inl (.inl e5)⟩, .int (15 + m), rfl, _, 1, rfl, rfl, by show 1 ≤ sizeLine; decide, fun t nt => ?_⟩
      have st := same_new (o := .tup [V.int (15 + (m : Int) - 1)]) nt
      refine ⟨.str z, rfl, z, rfl, Nat.le_trans h5 (by decide), t, _, _, rfl, rfl, .inl (.inl upd_same), by simp, by show (2 : Int) ≤ ((z.length : Nat) : Int); omega, by show ((z.length : Nat) : Int) ≤ 1000; omega, by show 1 ≤ 1000; decide, fun p np => ?_⟩
      have hrow : (List.replicate ((z.length : Nat) : Int).toNat [V.int (15 + (m : Int) - 1)]).flatten = vi (List.replicate z.length (m + 14)) := by
        rw [nm, Int.toNat_natCast]
        show _ = List.map _ _
        rw [List.map_replicate]
        induction z.length with
        | zero => rfl
        | succ n ih => rw [List.replicate_succ, List.replicate_succ, List.flatten_cons, ih]; rfl
      rw [hrow]
      have R6 := R5.new (o := .tup [V.int (15 + (m : Int) - 1)]) nt
      have R7 := R6.new (o := .tup (vi (List.replicate z.length (m + 14)))) np
      have fp : H p = none := ((o5.trans (Off.of st))).free (R6.ne np) np
      have ft : H t = none := o5.free (R5.ne nt) nt
      have e7 := same_new (o := .tup (vi (List.replicate z.length (m + 14)))) np _ _ (st _ _ e5)
      have ha : (L2.upd (L2.upd H5 t (.tup [V.int (15 + (m : Int) - 1)])) p (.tup (vi (List.replicate z.length (m + 14))))) p = some (.tup (vi (List.replicate z.length (m + 14)))) := upd_same
      have o7 := (o5.mut (o := .tup [V.int (15 + (m : Int) - 1)]) ft).mut (o := .tup (vi (List.replicate z.length (m + 14)))) fp
      have ra7 := ((ra.mono (Tups.new nt)).mono (Tups.new (o := .tup (vi (List.replicate z.length (m + 14)))) np)).snoc ha
      generalize L2.upd (L2.upd H5 t (.tup [V.int (15 + (m : Int) - 1)])) p (.tup (vi (List.replicate z.length (m + 14)))) = H7 at e7 R7 o7 ra7
      refine ⟨D, _, _, rfl, rfl, e7, by rw [List.length_map, ra.1, rl]; exact sl6 _ (by omega), ?_⟩
      have ra8 := ra7.mono (Tups.lst (o := .lst (vr as ++ [V.ref p])) e7)
      have R8 := R7.upd (o := .lst (vr as ++ [V.ref p])) rD
      have o8 := o7.mut (o := .lst (vr as ++ [V.ref p])) fD
      have e8 : (L2.upd H7 D (.lst (vr as ++ [V.ref p]))) D = some (.lst (vr (as ++ [p]))) := by rw [upd_same, vr_snoc]
      generalize L2.upd H7 D (.lst (vr as ++ [V.ref p])) = H8 at ra8 R8 o8 e8
      refine ⟨.str z, rfl, .ref D, rfl, D, _, rfl, .inl ⟨.inl (.inl e8), fun p4 n4 => ?_⟩⟩
      have f4 : H p4 = none := o8.free (R8.ne n4) n4
      refine ⟨.int (15 + m), rfl, _, 2, rfl, rfl, by show 1 ≤ sizeLine; decide, fun p5 n5 => ?_⟩
      have R9 := R8.new (o := .tup (vr (as ++ [p]))) n4
      have f5 : H p5 = none := (o8.mut f4).free (R9.ne n5) n5
      have e2 : (15 : Int) + (m : Int) - 2 = ((m + 13 : Nat) : Int) := by omega
      have R10 := R9.new (o := .tup [V.int (15 + (m : Int) - 2)]) n5
      refine ⟨by show 3 ≤ sizeLine; decide, fun p6 n6 => ?_⟩
      have f6 : H p6 = none := ((o8.mut f4).mut f5).free (R10.ne n6) n6
      have t4 : Tups H8 (L2.upd (L2.upd (L2.upd H8 p4 (.tup (vr (as ++ [p])))) p5 (.tup [V.int (15 + (m : Int) - 2)])) p6 (.tup [.str z, .ref p4, .ref p5])) := ((Tups.new n4).trans (Tups.new n5)).trans (Tups.new n6)
      have len : (rows ++ [List.replicate z.length (m + 14)]).length = m + 15 := by rw [List.length_append, rl]; rfl
      refine q _ p6 ⟨z, rows ++ [List.replicate z.length (m + 14)], [m + 13]⟩ (((o8.mut f4).mut f5).mut f6) (R10.new n6) ⟨p4, p5, as ++ [p], upd_same, ?_, ra8.mono t4, ?_⟩ ⟨hz, by show 1 ≤ (rows ++ [List.replicate z.length (m + 14)]).length; omega, ?_, ?_, List.pairwise_singleton _ _⟩ rfl (by show (rows ++ [List.replicate z.length (m + 14)]).length ≤ 60; omega)
      · exact ((Tups.new n5).trans (Tups.new n6)) _ _ upd_same
      · rw [show vi [m + 13] = [V.int (15 + (m : Int) - 2)] by rw [e2]; rfl]
        exact (Tups.new n6) _ _ upd_same
      · intro row hrow
        show row.length = z.length ∧ ∀ t ∈ row, t < (rows ++ [List.replicate z.length (m + 14)]).length
        rw [len]
        rcases List.mem_append.mp hrow with h | h
        · exact ro row h
        · rw [List.mem_singleton.mp h]
          exact ⟨List.length_replicate, fun t ht => by rw [(List.mem_replicate.mp ht).2]; omega⟩
      · intro e he
        show e < (rows ++ [List.replicate z.length (m + 14)]).length
        rw [len, List.mem_singleton.mp he]
        omega
end
end LH

namespace LH
open PySem PySem.Spec PyProof.Rows L2
/-! ### a machine beside which is told whether two letters were read -/
def fl (x y : Bool) : Nat := (if x then 1 else 0) + (if y then 2 else 0)
theorem fl_lt (x y : Bool) : fl x y < 4 := by cases x <;> cases y <;> decide
theorem fl_or (x y p q : Bool) : fl x y ||| fl p q = fl (x || p) (y || q) := by cases x <;> cases y <;> cases p <;> cases q <;> decide
theorem fl_3 (x y : Bool) : fl x y = 3 ↔ (x && y) = true := by cases x <;> cases y <;> decide
theorem fl_mk {f : Nat} (h : f < 4) : f = fl (decide (f % 2 = 1)) (decide (2 ≤ f)) := by
  match f, h with
  | 0, _ => decide
  | 1, _ => decide
  | 2, _ => decide
  | 3, _ => decide
def bt (a b c : Nat) : Nat := fl (decide (c = a)) (decide (c = b))
def wRow (M : Mach) (a b s : Nat) : List Nat := (M.z.cps.toList.zip (rowOf M (s / 4))).map fun x => x.2 * 4 + (s % 4 ||| bt a b x.1)
def wM (M : Mach) (a b : Nat) : Mach := ⟨M.z, (List.range (M.rows.length * 4)).map (wRow M a b), (List.range (M.rows.length * 4)).filter fun s => decide (s / 4 ∈ M.ends ∧ s % 4 = 3)⟩
theorem or_lt4 {f g : Nat} (hf : f < 4) (hg : g < 4) : (f ||| g) < 4 := by
  rw [fl_mk hf, fl_mk hg, fl_or]
  exact fl_lt _ _
theorem bt_lt (a b c : Nat) : bt a b c < 4 := fl_lt _ _
theorem wRow_len {M : Mach} (k : M.Ok) {a b s : Nat} (h : s < M.rows.length * 4) : (wRow M a b s).length = M.z.length := by
  obtain ⟨row, _, eg, l, _⟩ := k.row_at (s := s / 4) (by omega)
  unfold wRow rowOf
  rw [List.length_map, List.length_zip, eg, l, Array.length_toList]
  exact Nat.min_self _
theorem wM_row {M : Mach} {a b s : Nat} (h : s < M.rows.length * 4) : (wM M a b).rows.getD s [] = wRow M a b s := by
  show ((List.range (M.rows.length * 4)).map (wRow M a b)).getD s [] = _
  rw [List.getD_eq_getElem?_getD, List.getElem?_map, List.getElem?_range h]
  rfl
theorem wM_len (M : Mach) (a b : Nat) : (wM M a b).rows.length = M.rows.length * 4 := by
  show ((List.range (M.rows.length * 4)).map (wRow M a b)).length = _
  rw [List.length_map, List.length_range]
theorem wM_ok {M : Mach} (k : M.Ok) (a b : Nat) : (wM M a b).Ok := by
  have hm := k.many
  refine ⟨k.let_, by rw [wM_len]; omega, fun r hr => ?_, fun e he => ?_, List.Pairwise.filter _ List.pairwise_lt_range⟩
  · obtain ⟨s, hs, rfl⟩ := List.mem_map.mp (show r ∈ (List.range (M.rows.length * 4)).map (wRow M a b) from hr)
    have hs := List.mem_range.mp hs
    refine ⟨wRow_len k hs, fun t ht => ?_⟩
    rw [wM_len]
    obtain ⟨row, _, eg, _, rt⟩ := k.row_at (s := s / 4) (by omega)
    unfold wRow rowOf at ht
    rw [eg] at ht
    obtain ⟨x, hx, rfl⟩ := List.mem_map.mp ht
    have h1 := rt _ (List.of_mem_zip hx).2
    have h2 : (s % 4 ||| bt a b x.1) < 4 := or_lt4 (Nat.mod_lt _ (by decide)) (bt_lt ..)
    omega
  · rw [wM_len]
    exact List.mem_range.mp (List.mem_filter.mp he).1
theorem wM_step {M : Mach} (k : M.Ok) {a b s f c : Nat} (hs : s < M.rows.length) (hf : f < 4) (hc : c ∈ M.z.cps.toList) : (wM M a b).step (s * 4 + f) c = M.step s c * 4 + (f ||| bt a b c) := by
  have e1 : (s * 4 + f) / 4 = s := by omega
  have e2 : (s * 4 + f) % 4 = f := by omega
  obtain ⟨row, er, hi, _⟩ := k.step_at hs hc
  have eg : M.rows.getD s [] = row := by
    rw [List.getD_eq_getElem?_getD, er]
    rfl
  show ((wM M a b).rows.getD (s * 4 + f) []).getD (M.z.cps.toList.idxOf c) 0 = _
  rw [wM_row (by omega)]
  unfold wRow rowOf
  rw [e1, e2, eg, List.getD_eq_getElem?_getD, List.getElem?_map]
  have hl := List.idxOf_lt_length_iff.mpr hc
  have hz : (M.z.cps.toList.zip row)[M.z.cps.toList.idxOf c]? = some (c, M.step s c) := by
    rw [List.getElem?_zip_eq_some]
    exact ⟨by rw [List.getElem?_eq_getElem hl, List.getElem_idxOf], hi⟩
  rw [hz]
  rfl
theorem wM_run {M : Mach} (k : M.Ok) (a b : Nat) : ∀ (cs : List Nat) (s : Nat) (x y : Bool), s < M.rows.length → (∀ c ∈ cs, c ∈ M.z.cps.toList) → cs.foldl (wM M a b).step (s * 4 + fl x y) = cs.foldl M.step s * 4 + fl (x || decide (a ∈ cs)) (y || decide (b ∈ cs))
  | [], s, x, y, _, _ => by simp
  | c :: r, s, x, y, hs, hc => by
    have h1 := hc c List.mem_cons_self
    obtain ⟨_, _, _, q⟩ := k.step_at hs h1
    rw [List.foldl_cons, List.foldl_cons, wM_step k hs (fl_lt _ _) h1]
    unfold bt
    rw [fl_or, wM_run k a b r _ _ _ q fun d hd => hc d (List.mem_cons_of_mem _ hd)]
    congr 2
    · rw [Bool.or_assoc]
      congr 1
      rw [show decide (a ∈ c :: r) = (decide (c = a) || decide (a ∈ r)) by simp [List.mem_cons, eq_comm]]
    · rw [Bool.or_assoc]
      congr 1
      rw [show decide (b ∈ c :: r) = (decide (c = b) || decide (b ∈ r)) by simp [List.mem_cons, eq_comm]]
theorem wM_has {M : Mach} (k : M.Ok) (a b : Nat) {cs : List Nat} (hc : ∀ c ∈ cs, c ∈ M.z.cps.toList) : (wM M a b).has cs = (M.has cs && decide (a ∈ cs) && decide (b ∈ cs)) := by
  have h := wM_run k a b cs 0 false false k.many hc
  rw [show (0 * 4 + fl false false) = 0 from rfl] at h
  have hl := k.run_lt cs 0 k.many hc
  have hf := fl_lt (false || decide (a ∈ cs)) (false || decide (b ∈ cs))
  unfold Mach.has Mach.run
  rw [h]
  show decide (_ ∈ (List.range (M.rows.length * 4)).filter fun s => decide (s / 4 ∈ M.ends ∧ s % 4 = 3)) = _
  rw [Bool.and_assoc]
  refine Bool.eq_iff_iff.mpr ?_
  rw [decide_eq_true_iff, List.mem_filter, List.mem_range, decide_eq_true_iff, Bool.and_eq_true, decide_eq_true_iff]
  rw [show (List.foldl M.step 0 cs * 4 + fl (false || decide (a ∈ cs)) (false || decide (b ∈ cs))) / 4 = List.foldl M.step 0 cs by omega, show (List.foldl M.step 0 cs * 4 + fl (false || decide (a ∈ cs)) (false || decide (b ∈ cs))) % 4 = fl (false || decide (a ∈ cs)) (false || decide (b ∈ cs)) by omega, fl_3]
  rw [Bool.false_or, Bool.false_or] at hf ⊢
  exact ⟨fun h => h.2, fun h => ⟨by omega, h⟩⟩
/-- the least word is the words' own -/
theorem least_same {M N : Mach} (k : M.Ok) (l : N.Ok) (z : N.z = M.z) (h : ∀ cs, (∀ c ∈ cs, c ∈ M.z.cps.toList) → M.has cs = N.has cs) : leastM M = leastM N := by
  have ww : ∀ n, wordsM M n = wordsM N n := fun n => by
    rw [words_eq k, words_eq l, z]
    congr 1
    exact List.filter_congr fun w hw => h w (allW_in hw).2
  cases e : leastM M with
  | none =>
    cases e2 : leastM N with
    | none => rfl
    | some y =>
      obtain ⟨_, ⟨r, hr⟩, _⟩ := least_is l e2
      rw [← ww, least_non k e] at hr
      cases hr
  | some x =>
    obtain ⟨x1, ⟨r, hr⟩, _⟩ := least_is k e
    cases e2 : leastM N with
    | none =>
      rw [ww, least_non l e2] at hr
      cases hr
    | some y =>
      obtain ⟨y1, ⟨r2, hr2⟩, _⟩ := least_is l e2
      have hl : x.length = y.length := by
        rcases Nat.lt_trichotomy x.length y.length with q | q | q
        · have := y1 _ q
          rw [← ww, hr] at this
          cases this
        · exact q
        · have := x1 _ q
          rw [ww, hr2] at this
          cases this
      rw [hl, ww, hr2] at hr
      have := (List.cons.inj hr).1
      rw [tJ_inj this]
end LH

namespace LH
open PySem PySem.Spec PyProof.Rows L2 NdefX LamX LU
/-! ### _law_first_with -/
def k4 (s : Nat) : NestedKey := .tup [.num ((s / 4 : Nat) : Int), .num ((s % 4 : Nat) : Int)]
theorem k4_inj {s t : Nat} (h : k4 s = k4 t) : s = t := by
  unfold k4 at h
  simp only [NestedKey.tup.injEq, List.cons.injEq, NestedKey.num.injEq, and_true] at h
  omega
theorem k4_depth (s : Nat) : (k4 s).depth ≤ 8 := by
  show (NestedKey.tup [.num ((s / 4 : Nat) : Int), .num ((s % 4 : Nat) : Int)]).depth ≤ 8
  simp [NestedKey.depth, NestedKey.depthAll]
def kv4 (qs : List (List Nat × Nat)) : List (NestedKey × V) := qs.map fun p => (k4 p.2, V.str (tx p.1))
theorem kv4_none {s : Nat} : ∀ {qs : List (List Nat × Nat)}, s ∉ qs.map (·.2) → valV (kv4 qs) (k4 s) = none
  | [], _ => rfl
  | p :: r, h => by
    show valV ((k4 p.2, V.str (tx p.1)) :: kv4 r) _ = none
    rw [valV_neg (fun z => h (by rw [List.map_cons, ← k4_inj z]; exact List.mem_cons_self))]
    exact kv4_none fun z => h (List.mem_cons_of_mem _ z)
theorem kv4_some {p : List Nat × Nat} : ∀ {qs : List (List Nat × Nat)}, (qs.map (·.2)).Nodup → p ∈ qs → valV (kv4 qs) (k4 p.2) = some (.str (tx p.1))
  | [], _, h => nomatch h
  | q :: r, nd, h => by
    have nd := List.nodup_cons.mp nd
    show valV ((k4 q.2, V.str (tx q.1)) :: kv4 r) _ = _
    rcases List.mem_cons.mp h with rfl | h
    · rw [valV_pos rfl]
    · rw [valV_neg fun z => nd.1 (by show q.2 ∈ _; rw [k4_inj z]; exact List.mem_map.mpr ⟨p, h, rfl⟩)]
      exact kv4_some nd.2 h
theorem kv4_is {s : Nat} {qs : List (List Nat × Nat)} (nd : (qs.map (·.2)).Nodup) : (valV (kv4 qs) (k4 s)).isSome = decide (s ∈ qs.map (·.2)) := by
  by_cases h : s ∈ qs.map (·.2)
  · obtain ⟨p, hp, rfl⟩ := List.mem_map.mp h
    rw [kv4_some nd hp, decide_eq_true h]
    rfl
  · rw [kv4_none h, decide_eq_false h]
    rfl
/-- pairs of a state and of what was read -/
def P4At (H : Hp) (as : List Addr) (qs : List (List Nat × Nat)) : Prop := as.length = qs.length ∧ ∀ (i : Nat) (a : Addr) (p : List Nat × Nat), as[i]? = some a → qs[i]? = some p → H a = some (.tup [.int ((p.2 / 4 : Nat) : Int), .int ((p.2 % 4 : Nat) : Int)])
theorem P4At.mono {H H' : Hp} {as : List Addr} {qs : List (List Nat × Nat)} (t : Tups H H') (h : P4At H as qs) : P4At H' as qs := ⟨h.1, fun i a p x y => t _ _ (h.2 i a p x y)⟩
theorem P4At.snoc {H : Hp} {as : List Addr} {qs : List (List Nat × Nat)} {a : Addr} {q : List Nat × Nat} (h : P4At H as qs) (e : H a = some (.tup [.int ((q.2 / 4 : Nat) : Int), .int ((q.2 % 4 : Nat) : Int)])) : P4At H (as ++ [a]) (qs ++ [q]) := by
  refine ⟨by rw [List.length_append, List.length_append, h.1]; rfl, fun i b p x y => ?_⟩
  by_cases hi : i < as.length
  · rw [List.getElem?_append_left hi] at x
    rw [List.getElem?_append_left (by rw [← h.1]; exact hi)] at y
    exact h.2 i b p x y
  · rw [List.getElem?_append_right (by omega)] at x
    rw [List.getElem?_append_right (by rw [← h.1]; omega), ← h.1] at y
    have i0 : i - as.length = 0 := by
      have := (List.getElem?_eq_some_iff.mp x).1
      simp only [List.length_singleton] at this
      omega
    rw [i0] at x y
    cases x
    cases y
    exact e
theorem opn_ok {M : Mach} (k : M.Ok) {i j : Nat} {q : List Nat × Nat} (h : (qAt M i)[i]? = some q) : ((opn (qAt M i) ((ext M q).take j)).map (·.2)).Nodup ∧ ∀ p ∈ opn (qAt M i) ((ext M q).take j), p.2 < M.rows.length ∧ p.1.length ≤ i + 1 := by
  obtain ⟨a, b⟩ := qAt_ok k i
  refine ⟨opn_nd a, fun p hp => ?_⟩
  obtain ⟨r, hr, hm⟩ := opn_pre (qAt M i) ((ext M q).take j)
  rw [hr] at hp
  rcases List.mem_append.mp hp with h5 | h5
  · exact ⟨(b p h5).1, Nat.le_succ_of_le (b p h5).2⟩
  · obtain ⟨c, d⟩ := b q (List.mem_of_getElem? h)
    obtain ⟨e, f⟩ := ext_lt k c p (List.mem_of_mem_take (hm p h5))
    exact ⟨e, by omega⟩
theorem opn_few {M : Mach} (k : M.Ok) {i j : Nat} {q : List Nat × Nat} (h : (qAt M i)[i]? = some q) : (opn (qAt M i) ((ext M q).take j)).length ≤ M.rows.length := by
  obtain ⟨a, b⟩ := opn_ok (j := j) k h
  have := len_le_of_sub a (ys := List.range M.rows.length) fun x hx => by
    obtain ⟨p, hp, rfl⟩ := List.mem_map.mp hx
    exact List.mem_range.mpr (b p hp).1
  rwa [List.length_map, List.length_range] at this
theorem iteT' {B : Bool} {A C : Prop} (e : B = true) (h : A) : if B = true then A else C := by
  rw [if_pos e]
  exact h
theorem andK {B1 : Bool} {P2 N : Prop} (n : N) (h : B1 = true → N → P2) : ∃ b, V.bl B1 = V.bl b ∧ (if b = true then P2 else N) := ⟨B1, rfl, by
  cases e : B1 with
  | true => exact h e n
  | false => exact n⟩
theorem andK2 {B : Bool} {P2 N : Prop} (e : B = false) (n : N) : ∃ b, V.bl B = V.bl b ∧ (if b = true then P2 else N) := ⟨B, rfl, by
  rw [e]
  exact n⟩
section
variable {P : Program} {w : World} {K : PySem.W.Frag} {mg : Str → Option Value} {base : Heap}
def FW (w : World) (H H' : Hp) (d ln : Addr) (qs : List (List Nat × Nat)) : Prop := Same H H' ∧ UAt w H' d (kv4 qs) ∧ ∃ as, H' ln = some (.lst (vr as)) ∧ P4At H' as qs
def sp_law_first_with : Sp := fun vs H Q _ => ∃ (m : Addr) (M : Mach) (a b : Nat), vs = [.ref m, .str (sg a), .str (sg b)] ∧ MachAt H m M ∧ M.Ok ∧ M.rows.length ≤ 100 ∧ ∀ H', Same H H' → Q (vO (leastM (wM M a b))) H'
theorem ok_law_first_with (T : TX K mg) : FnOk P w K mg base CX0 1 T.a_law_first_with T.fd_law_first_with ["machine", "one", "other"] sp_law_first_with := by
  refine T.F_law_first_with.ok sc_law_first_with (fun vs H Q E h => ?_) (fun cdv A outer s H vs Q E hr h => ?_)
  · obtain ⟨m, M, a, b, rfl, _⟩ := h
    rfl
  · obtain ⟨m, M, a, b, rfl, hM, k, hb, q⟩ := h
    refine ⟨_, (pss_cons (ps_asg (pv 0) (pg_tupK (n := 3) K rfl (by rfl) (pgs_cons (pg_name (i := 3) sc_law_first_with.nd rfl (Or.inl rfl)) (pgs_cons (pg_name (i := 4) sc_law_first_with.nd rfl (Or.inl rfl)) (pgs_cons (pg_name (i := 5) sc_law_first_with.nd rfl (Or.inl rfl)) pgs_nil)))))
      (pss_cons (ps_set (i := 6) sc_law_first_with.nd rfl (Or.inl rfl) (LU.pe_udisp rfl hr.units (pe_tup (pa_cons pe_int (pa_cons pe_int pa_nil))) pe_str))
      (pss_cons (ps_set (i := 7) sc_law_first_with.nd rfl (Or.inl rfl) (pe_lst (pa_cons (pe_tup (pa_cons pe_int (pa_cons pe_int pa_nil))) pa_nil)))
      (pss_cons (ps_set (i := 8) sc_law_first_with.nd rfl (Or.inl rfl) pe_int)
      (pss_cons (ps_while PassesOwn.never (pt_cmpR op_lt (pv 8) (pe_callB (call_lenK K rfl) (by rfl) T.m_len (by decide +kernel) (pa_cons (pv 7) pa_nil)) (nomark _))
        (pss_cons (ps_asg (pe_ix (ix_listK K rfl) (pv 7) (pv 8) (fun _ _ => rfl)) (pg_tupK (n := 2) K rfl (by rfl) (pgs_cons (pg_name (i := 9) sc_law_first_with.nd rfl (Or.inl rfl)) (pgs_cons (pg_name (i := 10) sc_law_first_with.nd rfl (Or.inl rfl)) pgs_nil))))
          (pss_cons (ps_if (PW.pt (pw_and (pt_cmpR (op_in_seqK K rfl) (pv 9) (pv 5) (by rfl)) (pw_and1 (pt_cmpR op_eq (pv 10) pe_int (nomark _)))))
            (pss_one (ps_ret (LU.pe_uget rfl hr.units (pv 6) (pe_ix (ix_listK K rfl) (pv 7) (pv 8) (fun _ _ => rfl)) (fun _ _ => rfl))))
            pss_nil)
          (pss_cons (ps_for PassesOwn.never rfl (pi_range1 (by rfl) T.m_range (pa_cons (pe_callB call_len_str (by rfl) T.m_len (by decide +kernel) (pa_cons (pv 3) pa_nil)) pa_nil)) (pg_name (i := 11) sc_law_first_with.nd rfl (Or.inl rfl))
            (pss_cons (ps_set (i := 12) sc_law_first_with.nd rfl (Or.inl rfl) (pe_op op_add (pe_callTy call_int1 (by rfl) T.m_int (by decide +kernel) (pa_cons (pe_cmpR op_eq (pe_ix ix_str (pv 3) (pv 11) (fun _ _ => rfl)) (pv 1) (nomark _)) pa_nil)) (pe_op op_mul pe_int (pe_callTy call_int1 (by rfl) T.m_int (by decide +kernel) (pa_cons (pe_cmpR op_eq (pe_ix ix_str (pv 3) (pv 11) (fun _ _ => rfl)) (pv 2) (nomark _)) pa_nil)))))
              (pss_cons (ps_set (i := 13) sc_law_first_with.nd rfl (Or.inl rfl) (pe_tup (pa_cons (pe_ix (ix_tupK K rfl) (pe_ix (ix_tupK K rfl) (pv 4) (pv 9) (fun _ _ => rfl)) (pv 11) (fun _ _ => rfl)) (pa_cons (pe_op op_or (pv 10) (pv 12)) pa_nil))))
              (pss_one (ps_if (pt_cmp (LU.pc_unotin rfl hr.units (pv 13) (pv 6)))
                (pss_cons (LU.ps_uput rfl hr.units (pv 6) (pv 13) (pe_op op_add_str (LU.pe_uget rfl hr.units (pv 6) (pe_ix (ix_listK K rfl) (pv 7) (pv 8) (fun _ _ => rfl)) (fun _ _ => rfl)) (pe_ix ix_str (pv 3) (pv 11) (fun _ _ => rfl))) rfl)
                  (pss_one (ps_expr (pe_bmK K rfl PySem.F.plainAttrs_list PySem.F.slot_list_append PySem.F.type_list_append mt_append (pv 7) (pa_cons (pv 13) pa_nil)))))
                pss_nil)))))
          (pss_one (ps_set (i := 8) sc_law_first_with.nd rfl (Or.inl rfl) (pe_op op_add (pv 8) pe_int)))))))
      (pss_one (ps_ret pe_non))))))), ?_⟩
    have kw := wM_ok k a b
    have wl := wM_len M a b
    have z5 := k.let_.five
    obtain ⟨t, e, ras, h1, h2, h3, h4⟩ := id hM
    refine ⟨.ref m, rfl, m, [.str M.z, .ref t, .ref e], rfl, .inl (.inl h1), rfl, .str M.z, _, rfl, .ref t, _, rfl, .ref e, [], rfl, rfl, ?_⟩
    -- words = {(0, 0): ""}
    refine fun d nd H1 u0 r0 => ?_
    have s1 : Same H H1 := same_freeU nd r0
    refine ⟨by show 2 ≤ sizeLine; decide, fun t0 nt0 => ?_⟩
    have sA := same_new (o := .tup [V.int 0, V.int 0]) nt0
    have et0 : (L2.upd H1 t0 (.tup [V.int 0, V.int 0])) t0 = some (.tup [V.int 0, V.int 0]) := upd_same
    have u1 := u0.same sA
    have s2 := s1.trans sA
    generalize L2.upd H1 t0 (.tup [V.int 0, V.int 0]) = H2 at et0 u1 s2
    refine ⟨u1, k4 0, .tup et0 (.cons (.num _) (.cons (.num _) .nil)), k4_depth 0, fun H3 pu => ?_⟩
    have s3 : Same H H3 := fun x o eo => by rw [pu.2 x (ne_of_none eo nd)]; exact s2 _ _ eo
    have u3 : UAt w H3 d (kv4 [([], 0)]) := pu.1
    -- line
    refine ⟨by show 2 ≤ sizeLine; decide, fun t1 nt1 => ⟨by show 1 ≤ sizeLine; decide, fun ln nln => ?_⟩⟩
    have sB := (same_new (o := .tup [V.int 0, V.int 0]) nt1).trans (same_new (o := .lst [V.ref t1]) nln)
    have et1 : (L2.upd (L2.upd H3 t1 (.tup [V.int 0, V.int 0])) ln (.lst [V.ref t1])) t1 = some (.tup [V.int 0, V.int 0]) := (same_new (o := .lst [V.ref t1]) nln) _ _ upd_same
    have eln : (L2.upd (L2.upd H3 t1 (.tup [V.int 0, V.int 0])) ln (.lst [V.ref t1])) ln = some (.lst (vr [t1])) := upd_same
    have fln : H ln = none := (s3.trans (same_new (o := .tup [V.int 0, V.int 0]) nt1)).free nln
    have u4 := u3.same sB
    have s4 := s3.trans sB
    generalize L2.upd (L2.upd H3 t1 (.tup [V.int 0, V.int 0])) ln (.lst [V.ref t1]) = H4 at et1 eln u4 s4
    have dln : d ≠ ln := u4.ne eln (fun φ z => by cases z)
    have lr0 : FW w H H4 d ln (qAt (wM M a b) 0) := ⟨s4, u4, [t1], eln, rfl, fun i x p hx hp => by
      cases i with
      | zero =>
        cases hx
        cases hp
        exact et1
      | succ i => simp at hx⟩
    refine ⟨fun mz σ H' => ∃ (i : Nat) (y9 y10 y11 y12 y13 : Option V), mz + i = (wM M a b).rows.length + 1 ∧ FW w H H' d ln (qAt (wM M a b) i) ∧ i ≤ (qAt (wM M a b) i).length ∧ (∀ q ∈ (qAt (wM M a b) i).take i, isE (wM M a b) q = false) ∧ σ = [some (.ref m), some (.str (sg a)), some (.str (sg b)), some (.str M.z), some (.ref t), some (.ref e), some (.ref d), some (.ref ln), some (.int (i : Int)), y9, y10, y11, y12, y13], ⟨(wM M a b).rows.length + 1, 0, none, none, none, none, none, rfl, lr0, Nat.zero_le _, (fun q hq => nomatch hq), rfl⟩, fun mz σ H5 hW => ?_⟩
    clear lr0 u4 s4 et1 eln u3 s3 pu u1 s2 et0 s1 u0 r0
    obtain ⟨i, y9, y10, y11, y12, y13, hmz, lr, il, ne, rfl⟩ := hW
    obtain ⟨s5, u5, as, e5, p5⟩ := id lr
    have qN := qAt_len kw i
    refine ⟨.int (i : Int), rfl, .ref ln, rfl, ln, _, rfl, .inl (.inl (.inl e5)), (i : Int), _, rfl, rfl, _, rfl, ?_⟩
    rw [List.length_map, p5.1]
    by_cases hi : i < (qAt (wM M a b) i).length
    · rw [show decide ((i : Int) < (((qAt (wM M a b) i).length : Nat) : Int)) = true from decide_eq_true (by omega)]
      obtain ⟨p, hp⟩ : ∃ p, (qAt (wM M a b) i)[i]? = some p := ⟨_, List.getElem?_eq_getElem hi⟩
      obtain ⟨pa, hpa⟩ : ∃ x, as[i]? = some x := ⟨_, List.getElem?_eq_getElem (by rw [p5.1]; exact hi)⟩
      have epa := p5.2 i pa p hpa hp
      obtain ⟨qnd, qok⟩ := qAt_ok kw i
      obtain ⟨pn, pl⟩ := qok p (List.mem_of_getElem? hp)
      have aI : ∀ {xs : List Addr}, xs[i]? = some pa → atI (vr xs) (i : Int) = some (.ref pa) := fun h => atI_nat (by rw [List.getElem?_map, h]; rfl)
      have nvp : ∀ {H' : Hp}, H' pa = some (.tup [.int ((p.2 / 4 : Nat) : Int), .int ((p.2 % 4 : Nat) : Int)]) → NV H' (k4 p.2) (.ref pa) := fun h => .tup h (.cons (.num _) (.cons (.num _) .nil))
      refine ⟨fun σ' H' => ∃ m', m' < mz ∧ ∃ (i : Nat) (y9 y10 y11 y12 y13 : Option V), m' + i = (wM M a b).rows.length + 1 ∧ FW w H H' d ln (qAt (wM M a b) i) ∧ i ≤ (qAt (wM M a b) i).length ∧ (∀ q ∈ (qAt (wM M a b) i).take i, isE (wM M a b) q = false) ∧ σ' = [some (.ref m), some (.str (sg a)), some (.str (sg b)), some (.str M.z), some (.ref t), some (.ref e), some (.ref d), some (.ref ln), some (.int (i : Int)), y9, y10, y11, y12, y13], fun σ' H' h => h, ?_⟩
      refine ⟨.ref ln, rfl, .int (i : Int), rfl, ln, _, (i : Int), .ref pa, rfl, rfl, .inl (.inl e5), aI hpa, pa, _, rfl, .inl (.inl epa), rfl, .int ((p.2 / 4 : Nat) : Int), _, rfl, .int ((p.2 % 4 : Nat) : Int), [], rfl, rfl, ?_⟩
      have isp : isE (wM M a b) p = (decide (p.2 / 4 ∈ M.ends) && decide (p.2 % 4 = 3)) := by
        unfold isE
        show decide (p.2 ∈ (List.range (M.rows.length * 4)).filter fun s => decide (s / 4 ∈ M.ends ∧ s % 4 = 3)) = _
        rw [← Bool.decide_and]
        refine decide_eq_decide.mpr ?_
        rw [List.mem_filter, List.mem_range, decide_eq_true_iff]
        exact ⟨fun h => h.2, fun h => ⟨by omega, h⟩⟩
      refine ⟨.int ((p.2 / 4 : Nat) : Int), rfl, .ref e, rfl, e, _, rfl, .inr (.inl (.inl (s5 _ _ h4))), rfl, flat_vi _, ?_⟩
      have i1 : inV (V.int ((p.2 / 4 : Nat) : Int)) (vi M.ends) = decide (p.2 / 4 ∈ M.ends) := inV_vi _ _
      have i2 : decide (V.int ((p.2 % 4 : Nat) : Int) = V.int 3) = decide (p.2 % 4 = 3) := decide_eq_decide.mpr ⟨fun h => by have := V.int.inj h; omega, fun h => by rw [h]; rfl⟩
      by_cases hE : isE (wM M a b) p = true
      · have hE' := hE
        rw [isp, Bool.and_eq_true] at hE'
        refine ⟨_, rfl, ?_⟩
        refine iteT' (i1.trans hE'.1) ⟨.int ((p.2 % 4 : Nat) : Int), rfl, rfl, _, rfl, iteT' (i2.trans hE'.2) ?_⟩
        refine ⟨.ref d, rfl, .ref ln, rfl, .int (i : Int), rfl, ln, _, (i : Int), .ref pa, rfl, rfl, .inl (.inl e5), aI hpa, d, _, _, _, rfl, u5, nvp epa, k4_depth _, kv4_some qnd (List.mem_of_getElem? hp), ?_⟩
        have := q H5 s5
        rw [least_some kw hp hE ne] at this
        exact this
      have hE : isE (wM M a b) p = false := by simpa using hE
      refine andK ?_ fun y n => ⟨.int ((p.2 % 4 : Nat) : Int), rfl, rfl, andK2 (by rw [i2]; rw [isp, ← i1] at hE; rw [show inV (V.int ((p.2 / 4 : Nat) : Int)) (vi M.ends) = true from y, Bool.true_and] at hE; exact hE) n⟩
      -- for k in range(len(letters))
      have sn : p.2 / 4 < M.rows.length := by omega
      obtain ⟨row, er, eg, rl, rt⟩ := k.row_at sn
      obtain ⟨ra, hra, hrv, era⟩ := h3.get er
      have zlen : M.z.cps.toList.length = M.z.length := Array.length_toList
      refine ⟨.str M.z, rfl, M.z, rfl, Nat.le_trans z5 (by decide), ((M.z.length : Nat) : Int), rfl, by omega, by omega, ?_⟩
      refine for_range (lo := 0) (n := ((M.z.length : Nat) : Int).toNat) (fun j σ H' => FW w H H' d ln (opn (qAt (wM M a b) i) ((ext (wM M a b) p).take j)) ∧ ∃ y11 y12 y13, σ = [some (.ref m), some (.str (sg a)), some (.str (sg b)), some (.str M.z), some (.ref t), some (.ref e), some (.ref d), some (.ref ln), some (.int (i : Int)), some (.int ((p.2 / 4 : Nat) : Int)), some (.int ((p.2 % 4 : Nat) : Int)), y11, y12, y13]) ⟨lr, _, _, _, rfl⟩ (fun j σ H6 hj hW => ?_) (fun σ H6 hW => ?_)
      · obtain ⟨lr6, y11, y12, y13, rfl⟩ := hW
        have hj : j < M.z.length := by omega
        have j0 : (0 : Int) + (j : Int) = (j : Int) := Int.zero_add _
        rw [j0]
        have ec := List.getElem?_eq_getElem (l := M.z.cps.toList) (i := j) (by omega)
        generalize M.z.cps.toList[j]'(by omega) = c at ec
        have eu := List.getElem?_eq_getElem (l := row) (i := j) (by omega)
        have ul := rt _ (List.getElem_mem (l := row) (n := j) (by omega))
        generalize row[j]'(by omega) = u at eu ul
        have lz : M.z.length ≤ sizeLine := Nat.le_trans z5 (by decide)
        have hb : ∀ x : Nat, V.int (if decide (V.str (sg c) = V.str (sg x)) = true then 1 else 0) = V.int (((if c = x then 1 else 0 : Nat)) : Int) := fun x => by
          congr 1
          by_cases q : c = x
          · subst q
            rw [decide_eq_true rfl, if_pos rfl, if_pos rfl]
            rfl
          · have : ¬ V.str (sg c) = V.str (sg x) := fun z => q (by have := congrArg (fun z : Str => z.cps.toList) (V.str.inj z); exact (List.cons.inj this).1)
            rw [decide_eq_false this, if_neg (by simp), if_neg q]
            rfl
        refine ⟨.str M.z, rfl, .int (j : Int), rfl, M.z, (j : Int), c, rfl, rfl, lz, atI_nat ec, .str (sg a), rfl, rfl, .inr ⟨_, rfl, .str M.z, rfl, .int (j : Int), rfl, M.z, (j : Int), c, rfl, rfl, lz, atI_nat ec, .str (sg b), rfl, rfl, .inr ⟨_, rfl, 2, _, rfl, hb b, .inl ⟨by decide, by decide⟩, _, _, hb a, rfl, ?_⟩⟩⟩
        have em : V.int ((((if c = a then 1 else 0 : Nat)) : Int) + 2 * (((if c = b then 1 else 0 : Nat)) : Int)) = V.int ((bt a b c : Nat) : Int) := by
          congr 1
          unfold bt fl
          by_cases qa : c = a
          · by_cases qb : c = b
            · rw [if_pos qa, if_pos qb, decide_eq_true qa, decide_eq_true qb]
              rfl
            · rw [if_pos qa, if_neg qb, decide_eq_true qa, decide_eq_false qb]
              rfl
          · by_cases qb : c = b
            · rw [if_neg qa, if_pos qb, decide_eq_false qa, decide_eq_true qb]
              rfl
            · rw [if_neg qa, if_neg qb, decide_eq_false qa, decide_eq_false qb]
              rfl
        refine ⟨.ref t, rfl, .int ((p.2 / 4 : Nat) : Int), rfl, t, _, _, .ref ra, rfl, rfl, .inl (.inl (lr6.1 _ _ h2)), atI_nat hrv, .int (j : Int), rfl, ra, _, (j : Int), .int (u : Int), rfl, rfl, .inl (.inl (lr6.1 _ _ era)), atI_nat (by rw [List.getElem?_map, eu]; rfl), .int ((p.2 % 4 : Nat) : Int), rfl, _, rfl, _, _, rfl, em, by show 2 ≤ sizeLine; decide, fun tp ntp => ?_⟩
        have hbo : Builtin.bitOr ((p.2 % 4 : Nat) : Int) ((bt a b c : Nat) : Int) = ((p.2 % 4 ||| bt a b c : Nat) : Int) := by
          rw [bitOr_nn (Int.natCast_nonneg _) (Int.natCast_nonneg _), Int.toNat_natCast, Int.toNat_natCast]
        have f4 : (p.2 % 4 ||| bt a b c) < 4 := or_lt4 (Nat.mod_lt _ (by decide)) (bt_lt ..)
        have etp : (L2.upd H6 tp (.tup [V.int (u : Int), V.int (Builtin.bitOr ((p.2 % 4 : Nat) : Int) ((bt a b c : Nat) : Int))])) tp = some (.tup [.int (((u * 4 + (p.2 % 4 ||| bt a b c)) / 4 : Nat) : Int), .int (((u * 4 + (p.2 % 4 ||| bt a b c)) % 4 : Nat) : Int)]) := by
          rw [upd_same, hbo, show (u * 4 + (p.2 % 4 ||| bt a b c)) / 4 = u by omega, show (u * 4 + (p.2 % 4 ||| bt a b c)) % 4 = (p.2 % 4 ||| bt a b c) by omega]
        have sT := same_new (o := .tup [V.int (u : Int), V.int (Builtin.bitOr ((p.2 % 4 : Nat) : Int) ((bt a b c : Nat) : Int))]) ntp
        generalize L2.upd H6 tp (.tup [V.int (u : Int), V.int (Builtin.bitOr ((p.2 % 4 : Nat) : Int) ((bt a b c : Nat) : Int))]) = H7 at etp sT
        have ewr : (wRow M a b p.2)[j]? = some (u * 4 + (p.2 % 4 ||| bt a b c)) := by
          unfold wRow rowOf
          rw [eg, List.getElem?_map]
          have : (M.z.cps.toList.zip row)[j]? = some (c, u) := by
            rw [List.getElem?_zip_eq_some]
            exact ⟨ec, eu⟩
          rw [this]
          rfl
        have et : opn (qAt (wM M a b) i) ((ext (wM M a b) p).take (j + 1)) = if (u * 4 + (p.2 % 4 ||| bt a b c)) ∈ (opn (qAt (wM M a b) i) ((ext (wM M a b) p).take j)).map (fun x : List Nat × Nat => x.2) then opn (qAt (wM M a b) i) ((ext (wM M a b) p).take j) else opn (qAt (wM M a b) i) ((ext (wM M a b) p).take j) ++ [(p.1 ++ [c], u * 4 + (p.2 % 4 ||| bt a b c))] := by
          rw [take_snoc (ext_at kw pn (wM_row (by omega)) ec ewr), opn_snoc]
        generalize u * 4 + (p.2 % 4 ||| bt a b c) = nt at etp ewr et
        obtain ⟨Rnd, Rok⟩ := opn_ok (j := j) kw hp
        have Rfew := opn_few (j := j) kw hp
        have pR : (opn (qAt (wM M a b) i) ((ext (wM M a b) p).take j))[i]? = some p := by
          obtain ⟨r9, h9, _⟩ := opn_pre (qAt (wM M a b) i) ((ext (wM M a b) p).take j)
          rw [h9, List.getElem?_append_left hi]
          exact hp
        rw [et]
        generalize opn (qAt (wM M a b) i) ((ext (wM M a b) p).take j) = R at lr6 Rnd Rok Rfew pR
        obtain ⟨s6, u6, as6, e6, p6⟩ := lr6
        have s7 := s6.trans sT
        have u7 := u6.same sT
        have e7 := sT _ _ e6
        have p7 := p6.mono (Tups.same sT)
        obtain ⟨pb, hpb⟩ : ∃ x, as6[i]? = some x := ⟨_, List.getElem?_eq_getElem (by rw [p6.1]; exact (List.getElem?_eq_some_iff.mp pR).1)⟩
        have epb := p7.2 i pb p hpb pR
        have nvt : NV H7 (k4 nt) (.ref tp) := .tup etp (.cons (.num _) (.cons (.num _) .nil))
        refine ⟨.ref tp, rfl, .ref d, rfl, d, _, k4 nt, rfl, u7, nvt, k4_depth _, _, rfl, ?_⟩
        rw [kv4_is Rnd]
        by_cases hin : nt ∈ R.map (·.2)
        · rw [decide_eq_true hin, if_pos hin]
          exact iteF ⟨⟨s7, u7, as6, e7, p7⟩, _, _, _, rfl⟩
        · rw [decide_eq_false hin, if_neg hin]
          refine iteT ?_
          refine ⟨.ref d, rfl, .ref ln, rfl, .int (i : Int), rfl, ln, _, (i : Int), .ref pb, rfl, rfl, .inl (.inl e7), atI_nat (by rw [List.getElem?_map, hpb]; rfl), d, _, k4 p.2, .str (tx p.1), rfl, u7, .tup epb (.cons (.num _) (.cons (.num _) .nil)), k4_depth _, kv4_some Rnd (List.mem_of_getElem? pR), .str M.z, rfl, .int (j : Int), rfl, M.z, (j : Int), c, rfl, rfl, lz, atI_nat ec, tx p.1, sg c, rfl, rfl, ?_, .ref d, rfl, .ref tp, rfl, d, _, k4 nt, rfl, u7, nvt, k4_depth _, ?_, fun H8 pu => ?_⟩
          · rw [tx_len]
            exact Nat.le_trans (show p.1.length + 1 ≤ 1000 by omega) (by decide)
          · show (List.map _ R).length < _
            rw [List.length_map]
            exact sl6 _ (by omega)
          · have t8 : Tups H7 H8 := UPut.tups u7 pu
            have off : ∀ x o, x ≠ d → H7 x = some o → H8 x = some o := fun x o hx eo => by rw [pu.2 x hx]; exact eo
            have e8 := off _ _ dln.symm e7
            have ep : putK (kv4 R) (k4 nt) (V.str (tx p.1 ++ sg c)) = kv4 (R ++ [(p.1 ++ [c], nt)]) := by
              rw [putK_new _ (kv4_none hin)]
              unfold kv4
              rw [List.map_append, tx_app]
              rfl
            have u8 : UAt w H8 d (kv4 (R ++ [(p.1 ++ [c], nt)])) := by
              rw [← ep]
              exact pu.1
            refine ⟨.ref ln, rfl, .inl ⟨rfl, _, .inl (.inl e8)⟩, .ref tp, rfl, ln, _, _, rfl, rfl, e8, by rw [List.length_map, p7.1]; exact sl6 _ (by omega), ⟨fun x o eo => ?_, ?_, as6 ++ [tp], by rw [upd_same, vr_snoc], ((p7.mono t8).snoc (t8 _ _ etp)).mono (Tups.lst e8)⟩, _, _, _, rfl⟩
            · rw [upd_ne (ne_of_none eo fln)]
              exact off _ _ (ne_of_none eo nd) (s7 _ _ eo)
            · exact u8.mono (Tups.lst e8) fun o eo => by rw [upd_ne dln]; exact eo
      · obtain ⟨lr6, y11, y12, y13, rfl⟩ := hW
        have le : ((M.z.length : Nat) : Int).toNat = M.z.length := Int.toNat_natCast _
        rw [le, List.take_of_length_le (l := ext (wM M a b) p) (by rw [ext_len kw pn]; exact Nat.le_refl _), ← qAt_go hp] at lr6
        obtain ⟨r7, hr7⟩ := qAt_pre (wM M a b) i 1
        refine ⟨.int (i : Int), rfl, (i : Int), 1, rfl, rfl, mz - 1, by omega, i + 1, _, _, _, _, _, by omega, lr6, ?_, fun q hq => ?_, rfl⟩
        · rw [hr7, List.length_append]
          have h7 := lr6.2.2
          omega
        · rw [hr7, List.take_append_of_le_length (by omega), take_snoc hp] at hq
          rcases List.mem_append.mp hq with h5 | h5
          · exact ne q h5
          · rw [List.mem_singleton.mp h5]
            exact hE
    · rw [show decide ((i : Int) < (((qAt (wM M a b) i).length : Nat) : Int)) = false from decide_eq_false (by omega)]
      have h5 : (qAt (wM M a b) i).length ≤ i := by omega
      have := q H5 s5
      rw [least_none kw h5 fun q hq => ne q (by rw [List.take_of_length_le h5]; exact hq)] at this
      exact this
end
end LH

namespace LH
open PySem PySem.Spec PyProof.Rows L2 NdefX LamX LU
theorem tupsE {H H' : Hp} (x : ExtN H H') : Tups H H' := fun b xs e => x b _ e (by intro ps z; cases z)
/-! ### words with a letter -/
def brB (z : List Nat) (a : Nat) : List (List Itm) := [[⟨z, 1⟩, ⟨[a], 0⟩, ⟨z, 1⟩]]
theorem allS {s : List Nat} : ∀ w : List Nat, (∀ c ∈ w, c ∈ s) → Mt [⟨s, 1⟩] w
  | [], _ => .skip .nil
  | c :: w, h => .star (h c List.mem_cons_self) (allS w fun d hd => h d (List.mem_cons_of_mem _ hd))
theorem mt_brB {z : List Nat} {a : Nat} : ∀ {cs : List Nat}, (∀ c ∈ cs, c ∈ z) → (Mt [⟨z, 1⟩, ⟨[a], 0⟩, ⟨z, 1⟩] cs ↔ a ∈ cs)
  | [], _ => by
    constructor
    · intro h
      cases h with
      | skip h => cases h
    · intro h
      cases h
  | c :: r, hz => by
    have ih := mt_brB (z := z) (a := a) (cs := r) fun d hd => hz d (List.mem_cons_of_mem _ hd)
    constructor
    · intro h
      cases h with
      | skip h =>
        cases h with
        | one hc _ =>
          rw [List.mem_singleton.mp hc]
          exact List.mem_cons_self
      | star _ h => exact List.mem_cons_of_mem _ (ih.mp h)
    · intro h
      by_cases e : a = c
      · subst e
        exact .skip (.one (List.mem_singleton.mpr rfl) (allS r fun d hd => hz d (List.mem_cons_of_mem _ hd)))
      · rcases List.mem_cons.mp h with h | h
        · exact absurd h e
        · exact .star (hz c List.mem_cons_self) (ih.mpr h)
theorem mtA_brB {z : List Nat} {a : Nat} {cs : List Nat} (hz : ∀ c ∈ cs, c ∈ z) : MtA (brB z a) cs ↔ a ∈ cs := by
  rw [← mt_brB hz]
  exact ⟨fun ⟨b, hb, m⟩ => by rw [List.mem_singleton.mp hb] at m; exact m, fun m => ⟨_, List.mem_singleton.mpr rfl, m⟩⟩
def txB1 (a : Nat) : Str := Str.empty ++ ".*" ++ sg a ++ ".*"
theorem txB1_eq (a : Nat) : txB1 a = tJ [46, 42, a, 46, 42] := by
  have e0 : (Str.ofString ".*" : Str) = tJ [46, 42] := by decide +kernel
  show ((tJ [] ++ Str.ofString ".*") ++ tJ [a]) ++ Str.ofString ".*" = _
  rw [e0, tJ_app, tJ_app, tJ_app]
  rfl
theorem patB {z : List Nat} {a : Nat} (hz : z ≠ []) (ha : a ∈ z) : PatT z (brB z a) (txB1 a) := by
  refine ⟨[[46, 42, a, 46, 42]], by rw [txB1_eq, TL.join_eq]; rfl, rfl, fun j br t h1 h2 => ?_⟩
  match j, h1, h2 with
  | 0, h1, h2 =>
    cases h1
    cases h2
    refine ⟨fun h => (nomatch h), ?_, by show 5 ≤ 1000; decide⟩
    exact BrT.cons (t := [46, 42]) ⟨by show 1 ≤ 2; decide, [46], .dot hz, rfl⟩ (BrT.cons (t := [a]) (u := [46, 42]) ⟨by show 0 ≤ 2; decide, [a], .one ha, rfl⟩ (BrT.cons (t := [46, 42]) (u := []) ⟨by show 1 ≤ 2; decide, [46], .dot hz, rfl⟩ .nil))
  | j + 1, h1, h2 => simp [brB] at h1
theorem runs_appB (rows : List (List Nat)) (s : Nat) (v w : List Nat) : runs rows s (v ++ w) = runs rows (runs rows s v) w := by
  unfold runs
  rw [List.foldl_append]
theorem canon_reachB {L : Nat} {rows : List (List Nat)} {ends : List Nat} (h : Canon L rows ends) (k : Nat) : k < rows.length → ∃ w : List Nat, (∀ c ∈ w, c < L) ∧ runs rows 0 w = k := by
  induction k using Nat.strongRecOn with
  | ind k ih =>
    intro hk
    rcases Nat.eq_zero_or_pos k with e | e
    · subst e
      exact ⟨[], (fun _ h => nomatch h), rfl⟩
    · obtain ⟨r, c, hr, ha, _⟩ := h.bfs k e hk
      obtain ⟨w, hw, ew⟩ := ih r hr (Nat.lt_trans hr hk)
      refine ⟨w ++ [c], mem_snoc hw (h.col ha).2, ?_⟩
      rw [runs_appB, ew]
      exact at_dl (L := L) ha
theorem few_two {z : Str} {M : Mach} {a : Nat} (k : M.Ok) (ez : M.z = z) (C : Canon z.length M.rows M.ends) (ha : a ∈ z.cps.toList) (hM : ∀ cs, (∀ c ∈ cs, c ∈ z.cps.toList) → (M.has cs = true ↔ a ∈ cs)) : M.rows.length ≤ 2 := by
  have hz : IsLet z := ez ▸ k.let_
  have zl : z.cps.toList.length = z.length := Array.length_toList
  have hx := List.idxOf_lt_length_iff.mpr ha
  have rk : ∀ v : List Nat, (∀ c ∈ v, c < z.length) → (runs M.rows 0 v ∈ M.ends ↔ z.cps.toList.idxOf a ∈ v) := fun v hv => by
    have hcs : ∀ x ∈ v.map (fun c => z.cps.toList.getD c 0), x ∈ z.cps.toList := fun x hx => by
      obtain ⟨c, hc, rfl⟩ := List.mem_map.mp hx
      have hl : c < z.cps.toList.length := by
        rw [zl]
        exact hv c hc
      rw [List.getD_eq_getElem?_getD, List.getElem?_eq_getElem hl]
      exact List.getElem_mem hl
    have ew : (v.map fun c => z.cps.toList.getD c 0).map (fun c => z.cps.toList.idxOf c) = v := by
      rw [List.map_map]
      conv => rhs; rw [← List.map_id v]
      refine List.map_congr_left fun c hc => ?_
      exact idx_of_rise hz.rise (by rw [zl]; exact hv c hc)
    have h := hM _ hcs
    rw [has_runs, ez, ew, decide_eq_true_iff] at h
    rw [h]
    constructor
    · intro q
      have : z.cps.toList.idxOf a ∈ (v.map fun c => z.cps.toList.getD c 0).map (fun c => z.cps.toList.idxOf c) := List.mem_map.mpr ⟨a, q, rfl⟩
      rw [ew] at this
      exact this
    · intro q
      refine List.mem_map.mpr ⟨_, q, ?_⟩
      rw [List.getD_eq_getElem?_getD, List.getElem?_eq_getElem hx, List.getElem_idxOf]
      rfl
  have key : ∀ i j, i < M.rows.length → j < M.rows.length → ∀ v u, (∀ c ∈ v, c < z.length) → (∀ c ∈ u, c < z.length) → runs M.rows 0 v = i → runs M.rows 0 u = j → (z.cps.toList.idxOf a ∈ v ↔ z.cps.toList.idxOf a ∈ u) → i = j := fun i j hi hj v u hv hu ei ej e => by
    refine C.min i j hi hj fun t ht => ?_
    rw [← ei, ← ej, ← runs_appB, ← runs_appB, rk _ (fun c hc => (List.mem_append.mp hc).elim (hv c) (ht c)), rk _ (fun c hc => (List.mem_append.mp hc).elim (hu c) (ht c)), List.mem_append, List.mem_append, e]
  by_cases h : M.rows.length ≤ 2
  · exact h
  exfalso
  obtain ⟨v0, a0, b0⟩ := canon_reachB C 0 (by omega)
  obtain ⟨v1, a1, b1⟩ := canon_reachB C 1 (by omega)
  obtain ⟨v2, a2, b2⟩ := canon_reachB C 2 (by omega)
  have k01 := key 0 1 (by omega) (by omega) v0 v1 a0 a1 b0 b1
  have k02 := key 0 2 (by omega) (by omega) v0 v2 a0 a2 b0 b2
  have k12 := key 1 2 (by omega) (by omega) v1 v2 a1 a2 b1 b2
  by_cases h0 : z.cps.toList.idxOf a ∈ v0 <;> by_cases h1 : z.cps.toList.idxOf a ∈ v1 <;> by_cases h2 : z.cps.toList.idxOf a ∈ v2 <;> simp [h0, h1, h2] at k01 k02 k12
section
variable {P : Program} {w : World} {K : PySem.W.Frag} {mg : Str → Option Value} {base : Heap}
def sp_with_both (tabs : List NTab) : Sp := fun vs H Q _ => ∃ (m : Addr) (M : Mach) (a b : Nat), vs = [.ref m, .str (sg a), .str (sg b)] ∧ MachAt H m M ∧ M.Ok ∧ M.rows.length ≤ 100 ∧ a ∈ M.z.cps.toList ∧ b ∈ M.z.cps.toList ∧ TabsN tabs H ∧ ∀ H', ExtN H H' → TabsN tabs H' → Q (vO (leastM (wM M a b))) H'
theorem ok_with_both (T : TX K mg) {tabs : List NTab} (G_paired : FnOk P w K mg base CX0 7 T.a_paired T.fd_paired ["one", "other", "wanted"] (sp_paired tabs)) (G_least_word : FnOk P w K mg base CX0 6 T.a_least_word T.fd_least_word ["machine"] (sp_least_word tabs)) (G_machine_of : FnOk P w K mg base CX0 7 T.a_machine_of T.fd_machine_of ["letters", "pattern"] (sp_machine_of tabs)) : FnOk P w K mg base CX0 9 T.a_with_both T.fd_with_both ["machine", "one", "other"] (sp_with_both tabs) := by
  have G_both : FnOk P w K mg base CX0 8 T.a_both T.fd_both ["one", "other"] (sp_twoC tabs and) := ok_bothC T G_paired
  refine T.F_with_both.ok sc_with_both (fun vs H Q E h => ?_) (fun cdv A outer s H vs Q E hr h => ?_)
  · obtain ⟨m, M, a, b, rfl, _⟩ := h
    rfl
  · obtain ⟨m, M, a, b, rfl, hM, k, hb, ha, hb2, tb, q⟩ := h
    refine ⟨_, (pss_cons (ps_set (i := 3) sc_with_both.nd rfl (Or.inl rfl) (pe_ix (ix_tupK K rfl) (pv 0) pe_int (fun _ _ => rfl)))
      (pss_cons (ps_set (i := 4) sc_with_both.nd rfl (Or.inl rfl) (pe_call G_both (hr.mono (by decide)) (by rfl) T.g_both T.F_both.kp T.b_both .nil pass0 (pa_cons (pv 0) (pa_cons (pe_call G_machine_of (hr.mono (by decide)) (by rfl) T.g_machine_of T.F_machine_of.kp T.b_machine_of .nil pass0 (pa_cons (pv 3) (pa_cons (pe_joined (.cons pe_str (.cons (pe_fmt (pv 1)) (.cons pe_str .nil)))) pa_nil))) pa_nil))))
      (pss_one (ps_ret (pe_call G_least_word (hr.mono (by decide)) (by rfl) T.g_least_word T.F_least_word.kp T.b_least_word .nil pass0 (pa_cons (pe_call G_both (hr.mono (by decide)) (by rfl) T.g_both T.F_both.kp T.b_both .nil pass0 (pa_cons (pv 4) (pa_cons (pe_call G_machine_of (hr.mono (by decide)) (by rfl) T.g_machine_of T.F_machine_of.kp T.b_machine_of .nil pass0 (pa_cons (pv 3) (pa_cons (pe_joined (.cons pe_str (.cons (pe_fmt (pv 2)) (.cons pe_str .nil)))) pa_nil))) pa_nil))) pa_nil)))))), ?_⟩
    have hzne : M.z.cps.toList ≠ [] := fun z => by rw [z] at ha; cases ha
    have sgl : ∀ c : Nat, (sg c).length ≤ sizeLine := fun c => by show 1 ≤ sizeLine; decide
    have l1 : (Str.empty ++ Str.ofString ".*").length ≤ sizeLine := by decide +kernel
    have l2 : ∀ c : Nat, (Str.empty ++ Str.ofString ".*" ++ sg c).length ≤ sizeLine := fun c => by show (3 : Nat) ≤ sizeLine; decide
    have l3 : ∀ c : Nat, (Str.empty ++ Str.ofString ".*" ++ sg c ++ Str.ofString ".*").length ≤ sizeLine := fun c => by show (5 : Nat) ≤ sizeLine; decide
    obtain ⟨t, e, ras, h1, _⟩ := id hM
    refine ⟨.ref m, rfl, m, _, 0, .str M.z, rfl, rfl, .inl (.inl h1), atI_nat (j := 0) rfl, ?_⟩
    refine ⟨.ref m, rfl, .str M.z, rfl, _, rfl, l1, .str (sg a), rfl, .inl ⟨_, rfl, sgl _, _, rfl, l2 a, _, rfl, l3 a, ?_⟩⟩
    refine ⟨M.z, txB1 a, brB M.z.cps.toList a, rfl, k.let_, by rw [txB1_eq, tJ_len]; show 5 ≤ 10000; decide, (fun z => nomatch z), by show 3 ≤ 8; decide, by show 1 ≤ 8; decide, patB hzne ha, tb, fun H1 p1 M1 x1 tb1 m1 k1 z1 r1 c1 w1 => ?_⟩
    have w1' : ∀ cs, (∀ c ∈ cs, c ∈ M.z.cps.toList) → (M1.has cs = true ↔ a ∈ cs) := fun cs hc => (w1 cs hc).trans (mtA_brB hc)
    have f1 := few_two k1 z1 c1 ha w1'
    have hm1 := hM.mono (tupsE x1)
    have n1 : M.rows.length * M1.rows.length ≤ 200 := Nat.le_trans (Nat.mul_le_mul hb f1) (by decide)
    refine ⟨m, p1, M, M1, rfl, hm1, k, m1, k1, z1, by omega, tb1, fun H2 p2 M2 x2 tb2 m2 z2 k2 r2 c2 w2 => ?_⟩
    refine ⟨.ref p2, rfl, .str M.z, rfl, _, rfl, l1, .str (sg b), rfl, .inl ⟨_, rfl, sgl _, _, rfl, l2 b, _, rfl, l3 b, ?_⟩⟩
    refine ⟨M.z, txB1 b, brB M.z.cps.toList b, rfl, k.let_, by rw [txB1_eq, tJ_len]; show 5 ≤ 10000; decide, (fun z => nomatch z), by show 3 ≤ 8; decide, by show 1 ≤ 8; decide, patB hzne hb2, tb2, fun H3 p3 M3 x3 tb3 m3 k3 z3 r3 c3 w3 => ?_⟩
    have w3' : ∀ cs, (∀ c ∈ cs, c ∈ M.z.cps.toList) → (M3.has cs = true ↔ b ∈ cs) := fun cs hc => (w3 cs hc).trans (mtA_brB hc)
    have n2 : M2.rows.length * M3.rows.length ≤ 200 * 257 := Nat.mul_le_mul (by omega) r3
    refine ⟨p2, p3, M2, M3, rfl, m2.mono (tupsE x3), k2, m3, k3, z3.trans z2.symm, by omega, tb3, fun H4 p4 M4 x4 tb4 m4 z4 k4 r4 c4 w4 => ?_⟩
    refine ⟨p4, M4, rfl, m4, k4, by omega, tb4, fun H5 x5 tb5 => ?_⟩
    have el : leastM M4 = leastM (wM M a b) := by
      refine least_same k4 (wM_ok k a b) (z2.symm.trans z4.symm) fun cs hcs => ?_
      rw [z4, z2] at hcs
      rw [w4 cs (by rw [z2]; exact hcs), w2 cs hcs, wM_has k a b hcs]
      have e1 : M1.has cs = decide (a ∈ cs) := Bool.eq_iff_iff.mpr ((w1' cs hcs).trans decide_eq_true_iff.symm)
      have e3 : M3.has cs = decide (b ∈ cs) := Bool.eq_iff_iff.mpr ((w3' cs hcs).trans decide_eq_true_iff.symm)
      rw [e1, e3]
    rw [el]
    exact q H5 ((((x1.trans x2).trans x3).trans x4).trans x5) tb5
end
theorem wM_swap {M : Mach} (k : M.Ok) (a b : Nat) : leastM (wM M b a) = leastM (wM M a b) := least_same (wM_ok k b a) (wM_ok k a b) rfl fun cs hcs => by
  rw [wM_has k b a hcs, wM_has k a b hcs, Bool.and_right_comm]
end LH

namespace LH
open PySem PySem.Spec PyProof.Rows L2 NdefX LamX LU
theorem iteF' {B : Bool} {A C : Prop} (e : B = false) (h : C) : if B = true then A else C := by
  rw [e]
  exact h
theorem iteT2 {B : Bool} {A C : Prop} (e : B = true) (h : A) : if B = true then A else C := by
  rw [if_pos e]
  exact h
theorem scal_vO (o : Option (List Nat)) : scal (vO o) (vO o) = true := by cases o <;> rfl
theorem let_ab : IsLet "ab" := ⟨by decide, by decide, by decide, by decide⟩
theorem let_mz : IsLet "mz" := ⟨by decide, by decide, by decide, by decide⟩
theorem tRow {T : List NTab} {H H' : Hp} {r : Addr} (t : TabsN T H) (R : RowAt H r) (o : Off r H H') : TabsN T H' := by
  obtain ⟨ns, e, _⟩ := R
  intro p hp
  obtain ⟨ps, h1, h2, h3⟩ := t p hp
  refine ⟨ps, o _ _ (fun z => by rw [z, e] at h1; cases h1) h1, h2, fun pos cv hc => ?_⟩
  obtain ⟨c, e1, e2⟩ := h3 pos cv hc
  refine ⟨c, e1, o _ _ (fun z => ?_) e2⟩
  rw [z, e] at e2
  unfold CodeO at e2
  cases e2
theorem RowAt.ext {r : Addr} {H H' : Hp} (x : ExtN H H') (R : RowAt H r) : RowAt H' r := by
  obtain ⟨ns, e, h⟩ := R
  exact ⟨ns, x _ _ e (by intro ps z; cases z), h⟩
section
variable {P : Program} {w : World} {K : PySem.W.Frag} {mg : Str → Option Value} {base : Heap}
def sp_law (K : PySem.W.Frag) (tabs : List NTab) : Sp := fun vs H Q _ => ∃ (a : Addr) (ns : List Int), vs = [.ref a] ∧ SqL K H a (ns.map V.int) ∧ ns.length ≤ 63 ∧ TabsN tabs H ∧ ∀ H', Q (.bl true) H'
theorem ok_law {f : Addr} {fd : FuncData} {tabs : List NTab} (F : Fun K "law" "law" s_law f fd) (T : TX K mg) (G_least_word : FnOk P w K mg base CX0 6 T.a_least_word T.fd_least_word ["machine"] (sp_least_word tabs)) (G_paired : FnOk P w K mg base CX0 7 T.a_paired T.fd_paired ["one", "other", "wanted"] (sp_paired tabs)) (G_machine_of : FnOk P w K mg base CX0 7 T.a_machine_of T.fd_machine_of ["letters", "pattern"] (sp_machine_of tabs)) : FnOk P w K mg base CX0 10 f fd ["script"] (sp_law K tabs) := by
  have G_law_draws := ok_law_draws (P := P) (w := w) (base := base) T
  have G_law_take := ok_law_take (P := P) (w := w) (base := base) T
  have G_law_letters := ok_law_letters (P := P) (w := w) (base := base) T
  have G_law_machine := ok_law_machine (P := P) (w := w) (base := base) T
  have G_law_far_machine := ok_law_far_machine (P := P) (w := w) (base := base) T
  have G_law_first_with := ok_law_first_with (P := P) (w := w) (base := base) T
  have G_with_both := ok_with_both (P := P) (w := w) (base := base) T G_paired G_least_word G_machine_of
  refine F.ok sc_law (fun vs H Q E h => ?_) (fun cdv A outer s H vs Q E hr h => ?_)
  · obtain ⟨a, ns, rfl, _⟩ := h
    rfl
  · obtain ⟨a, ns, rfl, hS, hlen, tb, q⟩ := h
    refine ⟨_, (pss_cons (ps_set (i := 1) sc_law.nd rfl (Or.inl rfl) (pe_call G_law_draws (hr.mono (by decide)) (by rfl) T.g_law_draws T.F_law_draws.kp T.b_law_draws .nil pass0 (pa_cons (pv 0) pa_nil)))
      (pss_cons (ps_set (i := 2) sc_law.nd rfl (Or.inl rfl) pe_int)
      (pss_cons (ps_while PassesOwn.never (LU.pt_midU (PW.pt (pw_or (pt_cmpR op_lt (pv 2) pe_int (nomark _)) (pw_or1 (PW.pt (pw_and (pt_cmpR (op_neD hr.units) (pv 1) (pe_lst pa_nil) (nomark _)) (pw_and1 (pt_cmpR op_lt (pv 2) pe_int (nomark _)))))))))
        (pss_cons (ps_set (i := 3) sc_law.nd rfl (Or.inl rfl) (pe_call G_law_letters (hr.mono (by decide)) (by rfl) T.g_law_letters T.F_law_letters.kp T.b_law_letters .nil pass0 (pa_cons (pv 1) (pa_cons pe_int pa_nil))))
          (C8.pss_cut (ps_if (pt_cmpR op_eq (pe_callB call_len_str (by rfl) T.m_len (by decide +kernel) (pa_cons (pv 3) pa_nil)) pe_int (nomark _))
            (pss_one (ps_set (i := 3) sc_law.nd rfl (Or.inl rfl) (pe_ix (ix_listK K rfl) (pe_lst (pa_cons pe_str (pa_cons pe_str pa_nil))) (pe_call G_law_take (hr.mono (by decide)) (by rfl) T.g_law_take T.F_law_take.kp T.b_law_take .nil pass0 (pa_cons (pv 1) (pa_cons pe_int pa_nil))) (fun _ _ => rfl))))
            pss_nil)
          (pss_cons (ps_set (i := 4) sc_law.nd rfl (Or.inl rfl) (pe_call G_law_machine (hr.mono (by decide)) (by rfl) T.g_law_machine T.F_law_machine.kp T.b_law_machine .nil pass0 (pa_cons (pv 1) (pa_cons (pv 3) (pa_cons (pe_ix (ix_listK K rfl) (pe_lst (pa_cons pe_int (pa_cons pe_int (pa_cons pe_int (pa_cons pe_int pa_nil))))) (pe_call G_law_take (hr.mono (by decide)) (by rfl) T.g_law_take T.F_law_take.kp T.b_law_take .nil pass0 (pa_cons (pv 1) (pa_cons pe_int pa_nil))) (fun _ _ => rfl)) pa_nil)))))
          (pss_cons (ps_set (i := 5) sc_law.nd rfl (Or.inl rfl) (pe_call G_law_take (hr.mono (by decide)) (by rfl) T.g_law_take T.F_law_take.kp T.b_law_take .nil pass0 (pa_cons (pv 1) (pa_cons (pe_callB call_len_str (by rfl) T.m_len (by decide +kernel) (pa_cons (pv 3) pa_nil)) pa_nil))))
          (pss_cons (ps_set (i := 6) sc_law.nd rfl (Or.inl rfl) (pe_ix ix_str (pv 3) (pv 5) (fun _ _ => rfl)))
          (pss_cons (ps_set (i := 7) sc_law.nd rfl (Or.inl rfl) (pe_ix ix_str (pv 3) (pe_op op_mod (pe_op op_add (pe_op op_add (pv 5) pe_int) (pe_call G_law_take (hr.mono (by decide)) (by rfl) T.g_law_take T.F_law_take.kp T.b_law_take .nil pass0 (pa_cons (pv 1) (pa_cons (pe_op op_sub (pe_callB call_len_str (by rfl) T.m_len (by decide +kernel) (pa_cons (pv 3) pa_nil)) pe_int) pa_nil)))) (pe_callB call_len_str (by rfl) T.m_len (by decide +kernel) (pa_cons (pv 3) pa_nil))) (fun _ _ => rfl)))
          (C8.pss_cut (ps_if (pt_cmpR op_eq (pe_call G_law_take (hr.mono (by decide)) (by rfl) T.g_law_take T.F_law_take.kp T.b_law_take .nil pass0 (pa_cons (pv 1) (pa_cons pe_int pa_nil))) pe_int (nomark _))
            (pss_one (ps_set (i := 4) sc_law.nd rfl (Or.inl rfl) (pe_call G_law_far_machine (hr.mono (by decide)) (by rfl) T.g_law_far_machine T.F_law_far_machine.kp T.b_law_far_machine .nil pass0 (pa_cons (pv 1) (pa_cons (pv 3) (pa_cons (pv 6) (pa_cons (pv 7) pa_nil)))))))
            pss_nil)
          (pss_cons (ps_set (i := 8) sc_law.nd rfl (Or.inl rfl) (pe_call G_law_first_with (hr.mono (by decide)) (by rfl) T.g_law_first_with T.F_law_first_with.kp T.b_law_first_with .nil pass0 (pa_cons (pv 4) (pa_cons (pv 6) (pa_cons (pv 7) pa_nil)))))
          (pss_cons (ps_for PassesOwn.never rfl (pi_tupK K rfl (pe_tup (pa_cons (pe_call G_with_both (hr.mono (by decide)) (by rfl) T.g_with_both T.F_with_both.kp T.b_with_both .nil pass0 (pa_cons (pv 4) (pa_cons (pv 6) (pa_cons (pv 7) pa_nil)))) (pa_cons (pe_call G_with_both (hr.mono (by decide)) (by rfl) T.g_with_both T.F_with_both.kp T.b_with_both .nil pass0 (pa_cons (pv 4) (pa_cons (pv 7) (pa_cons (pv 6) pa_nil)))) pa_nil)))) (pg_name (i := 9) sc_law.nd rfl (Or.inl rfl))
            (pss_one (ps_if (PW.pt (pw_or (pt_cmpR op_ne (pv 9) (pv 8) (nomark _)) (pw_or1 (pt_cmpR op_ne (pe_cmpR op_isN (pv 9) pe_non (nomark _)) (pe_cmpR op_isN (pv 8) pe_non (nomark _)) (nomark _)))))
                (pss_one (ps_ret pe_bl))
                pss_nil)))
          (pss_one (ps_set (i := 2) sc_law.nd rfl (Or.inl rfl) (pe_op op_add (pv 2) pe_int)))))))))))))
      (pss_one (ps_ret pe_bl))))), ?_⟩
    refine ⟨.ref a, rfl, a, ns, rfl, hS, hlen, fun H0 r s0 nr R0 => ?_⟩
    have tb0 := tb.ext s0
    refine ⟨fun mz σ H' => ∃ (k : Nat) (y3 y4 y5 y6 y7 y8 y9 : Option V), mz + k = 8 ∧ RowAt H' r ∧ TabsN tabs H' ∧ σ = [some (.ref a), some (.ref r), some (.int (k : Int)), y3, y4, y5, y6, y7, y8, y9], ⟨8, 0, none, none, none, none, none, none, none, rfl, R0, tb0, rfl⟩, fun mz σ H1 hW => ?_⟩
    obtain ⟨k, y3, y4, y5, y6, y7, y8, y9, hm, R1, tb1, rfl⟩ := hW
    clear tb0 R0 nr s0 tb hS
    refine ⟨fun c H' => (c = true → k < 8) ∧ Same H1 H', ?_, fun c H2 hc => ?_⟩
    · refine ⟨.int (k : Int), rfl, _, 1, rfl, rfl, _, rfl, ite2 (fun y => ⟨fun _ => ?_, Same.refl _⟩) (fun _ => ?_)⟩
      · have := of_decide_eq_true y
        omega
      · obtain ⟨ds, er, hl⟩ := id R1
        refine ⟨.ref r, rfl, by show 0 ≤ sizeLine; decide, fun e ne => ?_⟩
        have s1 := same_new (o := .lst []) ne
        refine ⟨.list (ds.map PyData.int), .list [], .lst (.inl (.inl (s1 _ _ er))) (dpI ds), .lst (.inl (.inl upd_same)) .nil, shapedI ds, by decide +kernel, _, rfl, ite2 (fun _ => ?_) (fun _ => ⟨(fun z => nomatch z), s1⟩)⟩
        refine ⟨.int (k : Int), rfl, _, 8, rfl, rfl, _, rfl, fun y => ?_, s1⟩
        have := of_decide_eq_true y
        omega
    obtain ⟨hk, s2⟩ := hc
    have R2 := R1.same s2
    have tb2 := tb1.ext s2
    cases c with
    | false => exact iteF (q _)
    | true =>
      have hk := hk rfl
      refine iteT ?_
      clear R1 tb1 s2
      refine ⟨fun σ' H' => ∃ m', m' < mz ∧ ∃ (k : Nat) (y3 y4 y5 y6 y7 y8 y9 : Option V), m' + k = 8 ∧ RowAt H' r ∧ TabsN tabs H' ∧ σ' = [some (.ref a), some (.ref r), some (.int (k : Int)), y3, y4, y5, y6, y7, y8, y9], fun σ' H' h => h, ?_⟩
      refine ⟨.ref r, rfl, r, 5, rfl, R2, by decide, by decide, fun H3 z o3 R3 hz => ?_⟩
      have tb3 := (tRow tb2 R2 o3)
      have lz : z.length ≤ sizeLine := Nat.le_trans hz.five (by decide)
      refine ⟨fun σ' H' => ∃ z', σ' = [some (.ref a), some (.ref r), some (.int (k : Int)), some (.str z'), y4, y5, y6, y7, y8, y9] ∧ IsLet z' ∧ 2 ≤ z'.length ∧ RowAt H' r ∧ TabsN tabs H', ?_, fun σ' H' hM => ?_⟩
      · refine ⟨.str z, rfl, z, rfl, lz, rfl, _, rfl, ite2 (fun y => ?_) (fun y => ?_)⟩
        · refine ⟨by show 2 ≤ sizeLine; decide, fun L nL => ?_⟩
          have sL := same_new (o := .lst [V.str "ab", V.str "mz"]) nL
          have rL := R3.ne nL
          refine ⟨.ref r, rfl, r, 2, rfl, R3.new nL, by decide, by decide, fun H4 g o4 R4 g0 g1 => ?_⟩
          have eL := o4 _ _ rL.symm (upd_same (H := H3) (a := L) (o := .lst [V.str "ab", V.str "mz"]))
          have tb4 := tRow (tb3.ext sL) (R3.new nL) o4
          rcases two_at (a := V.str "ab") (b := V.str "mz") g0 g1 with ⟨_, h⟩ | ⟨_, h⟩
          · exact ⟨L, _, g, .str "ab", rfl, rfl, .inl (.inl eL), h, "ab", rfl, let_ab, by decide, R4, tb4⟩
          · exact ⟨L, _, g, .str "mz", rfl, rfl, .inl (.inl eL), h, "mz", rfl, let_mz, by decide, R4, tb4⟩
        · have : ¬ z.length = 1 := fun e => y (decide_eq_true (by rw [e]; rfl))
          have h1 := hz.one
          exact ⟨z, rfl, hz, by omega, R3, tb3⟩
      clear R3 tb3 hz lz o3 R2 tb2
      obtain ⟨z, rfl, hz, z2, R3, tb3⟩ := hM
      have lz : z.length ≤ sizeLine := Nat.le_trans hz.five (by decide)
      have z5 := hz.five
      have zl : z.cps.toList.length = z.length := Array.length_toList
      -- machine
      refine ⟨.ref r, rfl, .str z, rfl, by show 4 ≤ sizeLine; decide, fun L nL => ?_⟩
      have sL := same_new (o := .lst [V.int 6, V.int 6, V.int 6, V.int 14]) nL
      have rL := R3.ne nL
      refine ⟨.ref r, rfl, r, 4, rfl, R3.new nL, by decide, by decide, fun H4 g o4 R4 g0 g1 => ?_⟩
      have eL := o4 _ _ rL.symm (upd_same (H := H') (a := L) (o := .lst [V.int 6, V.int 6, V.int 6, V.int 14]))
      have tb4 := tRow (tb3.ext sL) (R3.new nL) o4
      obtain ⟨n, hn, hat⟩ : ∃ n : Nat, (1 ≤ n ∧ n ≤ 100) ∧ atI [V.int 6, V.int 6, V.int 6, V.int 14] g = some (.int (n : Int)) := by
        rcases (show g = 0 ∨ g = 1 ∨ g = 2 ∨ g = 3 by omega) with rfl | rfl | rfl | rfl
        · exact ⟨6, by decide, atI_nat (j := 0) rfl⟩
        · exact ⟨6, by decide, atI_nat (j := 1) rfl⟩
        · exact ⟨6, by decide, atI_nat (j := 2) rfl⟩
        · exact ⟨14, by decide, atI_nat (j := 3) rfl⟩
      refine ⟨L, _, g, .int (n : Int), rfl, rfl, .inl (.inl eL), hat, r, z, n, rfl, R4, hz, hn.1, hn.2, fun H5 m M o5 R5 m5 kM zM rM => ?_⟩
      have tb5 := (tRow tb4 R4 o5)
      -- at, one, other
      refine ⟨.ref r, rfl, .str z, rfl, z, rfl, lz, r, ((z.length : Nat) : Int), rfl, R5, by omega, by omega, fun H6 g o6 R6 g0 g1 => ?_⟩
      obtain ⟨j, rfl⟩ : ∃ j : Nat, g = (j : Int) := ⟨g.toNat, by omega⟩
      have m6 := m5.mono (Tups.off R5 o6)
      have tb6 := (tRow tb5 R5 o6)
      have hj := List.getElem?_eq_getElem (l := z.cps.toList) (i := j) (by omega)
      have one_in := List.getElem_mem (l := z.cps.toList) (n := j) (by omega)
      generalize z.cps.toList[j]'(by omega) = one at hj one_in
      refine ⟨.str z, rfl, .int (j : Int), rfl, z, (j : Int), one, rfl, rfl, lz, atI_nat hj, ?_⟩
      refine ⟨.str z, rfl, .int (j : Int), rfl, _, 1, rfl, rfl, .ref r, rfl, .str z, rfl, z, rfl, lz, _, 1, rfl, rfl, r, ((z.length : Nat) : Int) - 1, rfl, R6, by omega, by omega, fun H7 g o7 R7 g0 g1 => ?_⟩
      have m7 := m6.mono (Tups.off R6 o7)
      have tb7 := (tRow tb6 R6 o7)
      have zp : (0 : Int) < ((z.length : Nat) : Int) := by omega
      obtain ⟨i, hi⟩ : ∃ i : Nat, ((j : Int) + 1 + g) % ((z.length : Nat) : Int) = (i : Int) := ⟨(((j : Int) + 1 + g) % ((z.length : Nat) : Int)).toNat, by have := Int.emod_nonneg ((j : Int) + 1 + g) (show ((z.length : Nat) : Int) ≠ 0 by omega); omega⟩
      have hil : i < z.length := by
        have := Int.emod_lt_of_pos ((j : Int) + 1 + g) zp
        omega
      have hi2 := List.getElem?_eq_getElem (l := z.cps.toList) (i := i) (by omega)
      have other_in := List.getElem_mem (l := z.cps.toList) (n := i) (by omega)
      generalize z.cps.toList[i]'(by omega) = other at hi2 other_in
      refine ⟨_, _, rfl, rfl, .str z, rfl, z, rfl, lz, _, _, rfl, rfl, zp, z, (i : Int), other, rfl, congrArg V.int hi, lz, atI_nat hi2, ?_⟩
      -- the far machine
      refine ⟨fun σ' H' => ∃ m M, σ' = [some (.ref a), some (.ref r), some (.int (k : Int)), some (.str z), some (.ref m), some (.int (j : Int)), some (.str (sg one)), some (.str (sg other)), y8, y9] ∧ RowAt H' r ∧ TabsN tabs H' ∧ MachAt H' m M ∧ M.Ok ∧ M.z = z ∧ M.rows.length ≤ 100, ?_, fun σ' H' hM => ?_⟩
      · refine ⟨.ref r, rfl, r, 3, rfl, R7, by decide, by decide, fun H8 g o8 R8 g0 g1 => ⟨rfl, _, rfl, ite2 (fun _ => ?_) (fun _ => ?_)⟩⟩
        · refine ⟨.ref r, rfl, .str z, rfl, .str (sg one), rfl, .str (sg other), rfl, r, z, one, other, rfl, R8, hz, z2, fun H9 m M o9 R9 m9 kM zM rM => ?_⟩
          exact ⟨m, M, rfl, R9, tRow (tRow tb7 R7 o8) R8 o9, m9, kM, zM, by omega⟩
        · exact ⟨m, M, rfl, R8, (tRow tb7 R7 o8), m7.mono (Tups.off R7 o8), kM, zM, by omega⟩
      clear m7 tb7 R7 o7 m6 tb6 R6 o6 m5 tb5 R5 o5 R4 o4 tb4 eL sL rL nL kM zM rM
      clear m M
      obtain ⟨m, M, rfl, R7, tb7, m7, kM, zM, rM⟩ := hM
      have in1 : one ∈ M.z.cps.toList := by rw [zM]; exact one_in
      have in2 : other ∈ M.z.cps.toList := by rw [zM]; exact other_in
      refine ⟨.ref m, rfl, .str (sg one), rfl, .str (sg other), rfl, m, M, one, other, rfl, m7, kM, rM, fun H8 s8 => ?_⟩
      have m8 := m7.mono (Tups.same s8)
      refine ⟨.ref m, rfl, .str (sg one), rfl, .str (sg other), rfl, m, M, one, other, rfl, m8, kM, rM, in1, in2, tb7.ext s8, fun H9 x9 tb9 => ?_⟩
      have m9 := m8.mono (tupsE x9)
      refine ⟨.ref m, rfl, .str (sg other), rfl, .str (sg one), rfl, m, M, other, one, rfl, m9, kM, rM, in2, in1, tb9, fun H10 x10 tb10 => ?_⟩
      rw [wM_swap kM one other]
      have R10 := ((R7.same s8).ext x9).ext x10
      have fl := scal_vO (leastM (wM M one other))
      generalize vO (leastM (wM M one other)) = v at fl
      refine ⟨by show 2 ≤ sizeLine; decide, fun t nt => ?_⟩
      have st := same_new (o := .tup [v, v]) nt
      have et : (L2.upd H10 t (.tup [v, v])) t = some (.tup [v, v]) := upd_same
      have R11 := R10.same st
      have tb11 := tb10.ext st
      generalize L2.upd H10 t (.tup [v, v]) = H11 at et R11 tb11
      refine ⟨t, rfl, ⟨_, .inl (.inl et)⟩, ?_⟩
      refine for_it (walk_tup (K := K) (a := t) (xs := [v, v])) (fun i σ H' => Same H11 H' ∧ ∃ y9, σ = [some (.ref a), some (.ref r), some (.int (k : Int)), some (.str z), some (.ref m), some (.int (j : Int)), some (.str (sg one)), some (.str (sg other)), some v, y9]) ⟨Same.refl _, _, rfl⟩ (fun i σ H' _ hP => .inl (.inl (hP.1 _ _ et))) (fun i x σ H12 H12' hi hW hY => ?_) (fun σ H12 hW => ?_)
      · obtain ⟨s12, y9, rfl⟩ := hW
        obtain ⟨rfl, hx⟩ := hY
        have ex : x = v := by
          match i, hx with
          | 0, hx => exact (Option.some.inj hx).symm
          | 1, hx => exact (Option.some.inj hx).symm
          | i + 2, hx => simp at hx
        subst ex
        refine ⟨x, rfl, x, rfl, fl, _, rfl, iteF' (by simp) ?_⟩
        exact ⟨x, rfl, rfl, x, rfl, rfl, rfl, _, rfl, iteF' (by simp) ⟨s12, _, rfl⟩⟩
      · obtain ⟨s12, y9, rfl⟩ := hW
        exact ⟨.int (k : Int), rfl, _, 1, rfl, rfl, mz - 1, by omega, k + 1, _, _, _, _, _, _, _, by omega, R11.same s12, tb11.ext s12, rfl⟩
end
end LH

namespace LH
open PySem PySem.Spec PyProof.Rows L2 NdefX LamX
theorem all_mk {l : PySem.W.OpenLaw} {w : World} {K : PySem.W.Frag} {h : Heap} {mg : Str → Option Value} {fa : Addr} (X : K.In h) (G : h.Ns mainGlobals mg) (hfa : mg "law" = some (.ref fa))
    {f_built : Addr} {od_built an_built : Option Addr} {sl_built : Array (Option Value)} {oc_built kV_built dc_built pm_built cd_built ct_built : Value}
    (a_built : PySem.W.nsIn K mainGlobals "built" = some (some (.ref f_built))) (l_built : K.lookup f_built = some ⟨oc_built, od_built, .func (PySem.W.fnOf "built" "built" (defArgs s_built) (defBody s_built) (defScope s_built) .none kV_built dc_built pm_built an_built cd_built ct_built), sl_built⟩) (c_built : PySem.W.codeIn K cd_built "built" = true) (k_built : PySem.W.keepIn K (.ref f_built) = true)
    {f_walked : Addr} {od_walked an_walked : Option Addr} {sl_walked : Array (Option Value)} {oc_walked kV_walked dc_walked pm_walked cd_walked ct_walked : Value}
    (a_walked : PySem.W.nsIn K mainGlobals "walked" = some (some (.ref f_walked))) (l_walked : K.lookup f_walked = some ⟨oc_walked, od_walked, .func (PySem.W.fnOf "walked" "walked" (defArgs s_walked) (defBody s_walked) (defScope s_walked) .none kV_walked dc_walked pm_walked an_walked cd_walked ct_walked), sl_walked⟩) (c_walked : PySem.W.codeIn K cd_walked "walked" = true) (k_walked : PySem.W.keepIn K (.ref f_walked) = true)
    {f_parted : Addr} {od_parted an_parted : Option Addr} {sl_parted : Array (Option Value)} {oc_parted kV_parted dc_parted pm_parted cd_parted ct_parted : Value}
    (a_parted : PySem.W.nsIn K mainGlobals "parted" = some (some (.ref f_parted))) (l_parted : K.lookup f_parted = some ⟨oc_parted, od_parted, .func (PySem.W.fnOf "parted" "parted" (defArgs s_parted) (defBody s_parted) (defScope s_parted) .none kV_parted dc_parted pm_parted an_parted cd_parted ct_parted), sl_parted⟩) (c_parted : PySem.W.codeIn K cd_parted "parted" = true) (k_parted : PySem.W.keepIn K (.ref f_parted) = true)
    {f_first_groups : Addr} {od_first_groups an_first_groups : Option Addr} {sl_first_groups : Array (Option Value)} {oc_first_groups kV_first_groups dc_first_groups pm_first_groups cd_first_groups ct_first_groups : Value}
    (a_first_groups : PySem.W.nsIn K mainGlobals "first_groups" = some (some (.ref f_first_groups))) (l_first_groups : K.lookup f_first_groups = some ⟨oc_first_groups, od_first_groups, .func (PySem.W.fnOf "first_groups" "first_groups" (defArgs s_first_groups) (defBody s_first_groups) (defScope s_first_groups) .none kV_first_groups dc_first_groups pm_first_groups an_first_groups cd_first_groups ct_first_groups), sl_first_groups⟩) (c_first_groups : PySem.W.codeIn K cd_first_groups "first_groups" = true) (k_first_groups : PySem.W.keepIn K (.ref f_first_groups) = true)
    {f_ways_back : Addr} {od_ways_back an_ways_back : Option Addr} {sl_ways_back : Array (Option Value)} {oc_ways_back kV_ways_back dc_ways_back pm_ways_back cd_ways_back ct_ways_back : Value}
    (a_ways_back : PySem.W.nsIn K mainGlobals "ways_back" = some (some (.ref f_ways_back))) (l_ways_back : K.lookup f_ways_back = some ⟨oc_ways_back, od_ways_back, .func (PySem.W.fnOf "ways_back" "ways_back" (defArgs s_ways_back) (defBody s_ways_back) (defScope s_ways_back) .none kV_ways_back dc_ways_back pm_ways_back an_ways_back cd_ways_back ct_ways_back), sl_ways_back⟩) (c_ways_back : PySem.W.codeIn K cd_ways_back "ways_back" = true) (k_ways_back : PySem.W.keepIn K (.ref f_ways_back) = true)
    {f_hits_of : Addr} {od_hits_of an_hits_of : Option Addr} {sl_hits_of : Array (Option Value)} {oc_hits_of kV_hits_of dc_hits_of pm_hits_of cd_hits_of ct_hits_of : Value}
    (a_hits_of : PySem.W.nsIn K mainGlobals "hits_of" = some (some (.ref f_hits_of))) (l_hits_of : K.lookup f_hits_of = some ⟨oc_hits_of, od_hits_of, .func (PySem.W.fnOf "hits_of" "hits_of" (defArgs s_hits_of) (defBody s_hits_of) (defScope s_hits_of) .none kV_hits_of dc_hits_of pm_hits_of an_hits_of cd_hits_of ct_hits_of), sl_hits_of⟩) (c_hits_of : PySem.W.codeIn K cd_hits_of "hits_of" = true) (k_hits_of : PySem.W.keepIn K (.ref f_hits_of) = true)
    {f_split_group : Addr} {od_split_group an_split_group : Option Addr} {sl_split_group : Array (Option Value)} {oc_split_group kV_split_group dc_split_group pm_split_group cd_split_group ct_split_group : Value}
    (a_split_group : PySem.W.nsIn K mainGlobals "split_group" = some (some (.ref f_split_group))) (l_split_group : K.lookup f_split_group = some ⟨oc_split_group, od_split_group, .func (PySem.W.fnOf "split_group" "split_group" (defArgs s_split_group) (defBody s_split_group) (defScope s_split_group) .none kV_split_group dc_split_group pm_split_group an_split_group cd_split_group ct_split_group), sl_split_group⟩) (c_split_group : PySem.W.codeIn K cd_split_group "split_group" = true) (k_split_group : PySem.W.keepIn K (.ref f_split_group) = true)
    {f_merged : Addr} {od_merged an_merged : Option Addr} {sl_merged : Array (Option Value)} {oc_merged kV_merged dc_merged pm_merged cd_merged ct_merged : Value}
    (a_merged : PySem.W.nsIn K mainGlobals "merged" = some (some (.ref f_merged))) (l_merged : K.lookup f_merged = some ⟨oc_merged, od_merged, .func (PySem.W.fnOf "merged" "merged" (defArgs s_merged) (defBody s_merged) (defScope s_merged) .none kV_merged dc_merged pm_merged an_merged cd_merged ct_merged), sl_merged⟩) (c_merged : PySem.W.codeIn K cd_merged "merged" = true) (k_merged : PySem.W.keepIn K (.ref f_merged) = true)
    {f_least_read : Addr} {od_least_read an_least_read : Option Addr} {sl_least_read : Array (Option Value)} {oc_least_read kV_least_read dc_least_read pm_least_read cd_least_read ct_least_read : Value}
    (a_least_read : PySem.W.nsIn K mainGlobals "least_read" = some (some (.ref f_least_read))) (l_least_read : K.lookup f_least_read = some ⟨oc_least_read, od_least_read, .func (PySem.W.fnOf "least_read" "least_read" (defArgs s_least_read) (defBody s_least_read) (defScope s_least_read) .none kV_least_read dc_least_read pm_least_read an_least_read cd_least_read ct_least_read), sl_least_read⟩) (c_least_read : PySem.W.codeIn K cd_least_read "least_read" = true) (k_least_read : PySem.W.keepIn K (.ref f_least_read) = true)
    {f_unseen : Addr} {od_unseen an_unseen : Option Addr} {sl_unseen : Array (Option Value)} {oc_unseen kV_unseen dc_unseen pm_unseen cd_unseen ct_unseen : Value}
    (a_unseen : PySem.W.nsIn K mainGlobals "unseen" = some (some (.ref f_unseen))) (l_unseen : K.lookup f_unseen = some ⟨oc_unseen, od_unseen, .func (PySem.W.fnOf "unseen" "unseen" (defArgs s_unseen) (defBody s_unseen) (defScope s_unseen) .none kV_unseen dc_unseen pm_unseen an_unseen cd_unseen ct_unseen), sl_unseen⟩) (c_unseen : PySem.W.codeIn K cd_unseen "unseen" = true) (k_unseen : PySem.W.keepIn K (.ref f_unseen) = true)
    {f_word_to : Addr} {od_word_to an_word_to : Option Addr} {sl_word_to : Array (Option Value)} {oc_word_to kV_word_to dc_word_to pm_word_to cd_word_to ct_word_to : Value}
    (a_word_to : PySem.W.nsIn K mainGlobals "word_to" = some (some (.ref f_word_to))) (l_word_to : K.lookup f_word_to = some ⟨oc_word_to, od_word_to, .func (PySem.W.fnOf "word_to" "word_to" (defArgs s_word_to) (defBody s_word_to) (defScope s_word_to) .none kV_word_to dc_word_to pm_word_to an_word_to cd_word_to ct_word_to), sl_word_to⟩) (c_word_to : PySem.W.codeIn K cd_word_to "word_to" = true) (k_word_to : PySem.W.keepIn K (.ref f_word_to) = true)
    {f_rises : Addr} {od_rises an_rises : Option Addr} {sl_rises : Array (Option Value)} {oc_rises kV_rises dc_rises pm_rises cd_rises ct_rises : Value}
    (a_rises : PySem.W.nsIn K mainGlobals "rises" = some (some (.ref f_rises))) (l_rises : K.lookup f_rises = some ⟨oc_rises, od_rises, .func (PySem.W.fnOf "rises" "rises" (defArgs s_rises) (defBody s_rises) (defScope s_rises) .none kV_rises dc_rises pm_rises an_rises cd_rises ct_rises), sl_rises⟩) (c_rises : PySem.W.codeIn K cd_rises "rises" = true) (k_rises : PySem.W.keepIn K (.ref f_rises) = true)
    {f_both : Addr} {od_both an_both : Option Addr} {sl_both : Array (Option Value)} {oc_both kV_both dc_both pm_both cd_both ct_both : Value}
    (a_both : PySem.W.nsIn K mainGlobals "both" = some (some (.ref f_both))) (l_both : K.lookup f_both = some ⟨oc_both, od_both, .func (PySem.W.fnOf "both" "both" (defArgs s_both) (defBody s_both) (defScope s_both) .none kV_both dc_both pm_both an_both cd_both ct_both), sl_both⟩) (c_both : PySem.W.codeIn K cd_both "both" = true) (k_both : PySem.W.keepIn K (.ref f_both) = true)
    {f_paired cr_paired pt_paired : Addr} {od_paired an_paired : Option Addr} {sl_paired : Array (Option Value)} {oc_paired kV_paired dc_paired pm_paired ct_paired : Value}
    (a_paired : PySem.W.nsIn K mainGlobals "paired" = some (some (.ref f_paired))) (l_paired : K.lookup f_paired = some ⟨oc_paired, od_paired, .func (PySem.W.fnOf "paired" "paired" (defArgs s_paired) (defBody s_paired) (defScope s_paired) .none kV_paired dc_paired pm_paired an_paired (.ref cr_paired) ct_paired), sl_paired⟩) (c_paired : PySem.W.codeIn K (.ref cr_paired) "paired" = true) (k_paired : PySem.W.keepIn K (.ref f_paired) = true)
    (h_paired : PySem.W.codeHdIn K cr_paired pt_paired = true) (n_paired : K.lookup pt_paired = none) (e_paired : h.get? pt_paired = some { cls := .none, data := .fields #[] })
    {f_end_marks : Addr} {od_end_marks an_end_marks : Option Addr} {sl_end_marks : Array (Option Value)} {oc_end_marks kV_end_marks dc_end_marks pm_end_marks cd_end_marks ct_end_marks : Value}
    (a_end_marks : PySem.W.nsIn K mainGlobals "end_marks" = some (some (.ref f_end_marks))) (l_end_marks : K.lookup f_end_marks = some ⟨oc_end_marks, od_end_marks, .func (PySem.W.fnOf "end_marks" "end_marks" (defArgs s_end_marks) (defBody s_end_marks) (defScope s_end_marks) .none kV_end_marks dc_end_marks pm_end_marks an_end_marks cd_end_marks ct_end_marks), sl_end_marks⟩) (c_end_marks : PySem.W.codeIn K cd_end_marks "end_marks" = true) (k_end_marks : PySem.W.keepIn K (.ref f_end_marks) = true)
    {f_least_word cr_least_word pt_least_word : Addr} {od_least_word an_least_word : Option Addr} {sl_least_word : Array (Option Value)} {oc_least_word kV_least_word dc_least_word pm_least_word ct_least_word : Value}
    (a_least_word : PySem.W.nsIn K mainGlobals "least_word" = some (some (.ref f_least_word))) (l_least_word : K.lookup f_least_word = some ⟨oc_least_word, od_least_word, .func (PySem.W.fnOf "least_word" "least_word" (defArgs s_least_word) (defBody s_least_word) (defScope s_least_word) .none kV_least_word dc_least_word pm_least_word an_least_word (.ref cr_least_word) ct_least_word), sl_least_word⟩) (c_least_word : PySem.W.codeIn K (.ref cr_least_word) "least_word" = true) (k_least_word : PySem.W.keepIn K (.ref f_least_word) = true)
    (h_least_word : PySem.W.codeHdIn K cr_least_word pt_least_word = true) (n_least_word : K.lookup pt_least_word = none) (e_least_word : h.get? pt_least_word = some { cls := .none, data := .fields #[] })
    {f_machine_of cr_machine_of pt_machine_of : Addr} {od_machine_of an_machine_of : Option Addr} {sl_machine_of : Array (Option Value)} {oc_machine_of kV_machine_of dc_machine_of pm_machine_of ct_machine_of : Value}
    (a_machine_of : PySem.W.nsIn K mainGlobals "machine_of" = some (some (.ref f_machine_of))) (l_machine_of : K.lookup f_machine_of = some ⟨oc_machine_of, od_machine_of, .func (PySem.W.fnOf "machine_of" "machine_of" (defArgs s_machine_of) (defBody s_machine_of) (defScope s_machine_of) .none kV_machine_of dc_machine_of pm_machine_of an_machine_of (.ref cr_machine_of) ct_machine_of), sl_machine_of⟩) (c_machine_of : PySem.W.codeIn K (.ref cr_machine_of) "machine_of" = true) (k_machine_of : PySem.W.keepIn K (.ref f_machine_of) = true)
    (h_machine_of : PySem.W.codeHdIn K cr_machine_of pt_machine_of = true) (n_machine_of : K.lookup pt_machine_of = none) (e_machine_of : h.get? pt_machine_of = some { cls := .none, data := .fields #[] })
    {f_branches_of : Addr} {od_branches_of an_branches_of : Option Addr} {sl_branches_of : Array (Option Value)} {oc_branches_of kV_branches_of dc_branches_of pm_branches_of cd_branches_of ct_branches_of : Value}
    (a_branches_of : PySem.W.nsIn K mainGlobals "branches_of" = some (some (.ref f_branches_of))) (l_branches_of : K.lookup f_branches_of = some ⟨oc_branches_of, od_branches_of, .func (PySem.W.fnOf "branches_of" "branches_of" (defArgs s_branches_of) (defBody s_branches_of) (defScope s_branches_of) .none kV_branches_of dc_branches_of pm_branches_of an_branches_of cd_branches_of ct_branches_of), sl_branches_of⟩) (c_branches_of : PySem.W.codeIn K cd_branches_of "branches_of" = true) (k_branches_of : PySem.W.keepIn K (.ref f_branches_of) = true)
    {f_items_of : Addr} {od_items_of an_items_of : Option Addr} {sl_items_of : Array (Option Value)} {oc_items_of kV_items_of dc_items_of pm_items_of cd_items_of ct_items_of : Value}
    (a_items_of : PySem.W.nsIn K mainGlobals "items_of" = some (some (.ref f_items_of))) (l_items_of : K.lookup f_items_of = some ⟨oc_items_of, od_items_of, .func (PySem.W.fnOf "items_of" "items_of" (defArgs s_items_of) (defBody s_items_of) (defScope s_items_of) .none kV_items_of dc_items_of pm_items_of an_items_of cd_items_of ct_items_of), sl_items_of⟩) (c_items_of : PySem.W.codeIn K cd_items_of "items_of" = true) (k_items_of : PySem.W.keepIn K (.ref f_items_of) = true)
    {f_choice_at : Addr} {od_choice_at an_choice_at : Option Addr} {sl_choice_at : Array (Option Value)} {oc_choice_at kV_choice_at dc_choice_at pm_choice_at cd_choice_at ct_choice_at : Value}
    (a_choice_at : PySem.W.nsIn K mainGlobals "choice_at" = some (some (.ref f_choice_at))) (l_choice_at : K.lookup f_choice_at = some ⟨oc_choice_at, od_choice_at, .func (PySem.W.fnOf "choice_at" "choice_at" (defArgs s_choice_at) (defBody s_choice_at) (defScope s_choice_at) .none kV_choice_at dc_choice_at pm_choice_at an_choice_at cd_choice_at ct_choice_at), sl_choice_at⟩) (c_choice_at : PySem.W.codeIn K cd_choice_at "choice_at" = true) (k_choice_at : PySem.W.keepIn K (.ref f_choice_at) = true)
    {f_bracket_at : Addr} {od_bracket_at an_bracket_at : Option Addr} {sl_bracket_at : Array (Option Value)} {oc_bracket_at kV_bracket_at dc_bracket_at pm_bracket_at cd_bracket_at ct_bracket_at : Value}
    (a_bracket_at : PySem.W.nsIn K mainGlobals "bracket_at" = some (some (.ref f_bracket_at))) (l_bracket_at : K.lookup f_bracket_at = some ⟨oc_bracket_at, od_bracket_at, .func (PySem.W.fnOf "bracket_at" "bracket_at" (defArgs s_bracket_at) (defBody s_bracket_at) (defScope s_bracket_at) .none kV_bracket_at dc_bracket_at pm_bracket_at an_bracket_at cd_bracket_at ct_bracket_at), sl_bracket_at⟩) (c_bracket_at : PySem.W.codeIn K cd_bracket_at "bracket_at" = true) (k_bracket_at : PySem.W.keepIn K (.ref f_bracket_at) = true)
    {f_mark_at : Addr} {od_mark_at an_mark_at : Option Addr} {sl_mark_at : Array (Option Value)} {oc_mark_at kV_mark_at dc_mark_at pm_mark_at cd_mark_at ct_mark_at : Value}
    (a_mark_at : PySem.W.nsIn K mainGlobals "mark_at" = some (some (.ref f_mark_at))) (l_mark_at : K.lookup f_mark_at = some ⟨oc_mark_at, od_mark_at, .func (PySem.W.fnOf "mark_at" "mark_at" (defArgs s_mark_at) (defBody s_mark_at) (defScope s_mark_at) .none kV_mark_at dc_mark_at pm_mark_at an_mark_at cd_mark_at ct_mark_at), sl_mark_at⟩) (c_mark_at : PySem.W.codeIn K cd_mark_at "mark_at" = true) (k_mark_at : PySem.W.keepIn K (.ref f_mark_at) = true)
    {f_places_of : Addr} {od_places_of an_places_of : Option Addr} {sl_places_of : Array (Option Value)} {oc_places_of kV_places_of dc_places_of pm_places_of cd_places_of ct_places_of : Value}
    (a_places_of : PySem.W.nsIn K mainGlobals "places_of" = some (some (.ref f_places_of))) (l_places_of : K.lookup f_places_of = some ⟨oc_places_of, od_places_of, .func (PySem.W.fnOf "places_of" "places_of" (defArgs s_places_of) (defBody s_places_of) (defScope s_places_of) .none kV_places_of dc_places_of pm_places_of an_places_of cd_places_of ct_places_of), sl_places_of⟩) (c_places_of : PySem.W.codeIn K cd_places_of "places_of" = true) (k_places_of : PySem.W.keepIn K (.ref f_places_of) = true)
    {f_read : Addr} {od_read an_read : Option Addr} {sl_read : Array (Option Value)} {oc_read kV_read dc_read pm_read cd_read ct_read : Value}
    (a_read : PySem.W.nsIn K mainGlobals "read" = some (some (.ref f_read))) (l_read : K.lookup f_read = some ⟨oc_read, od_read, .func (PySem.W.fnOf "read" "read" (defArgs s_read) (defBody s_read) (defScope s_read) .none kV_read dc_read pm_read an_read cd_read ct_read), sl_read⟩) (c_read : PySem.W.codeIn K cd_read "read" = true) (k_read : PySem.W.keepIn K (.ref f_read) = true)
    {f_let_on : Addr} {od_let_on an_let_on : Option Addr} {sl_let_on : Array (Option Value)} {oc_let_on kV_let_on dc_let_on pm_let_on cd_let_on ct_let_on : Value}
    (a_let_on : PySem.W.nsIn K mainGlobals "let_on" = some (some (.ref f_let_on))) (l_let_on : K.lookup f_let_on = some ⟨oc_let_on, od_let_on, .func (PySem.W.fnOf "let_on" "let_on" (defArgs s_let_on) (defBody s_let_on) (defScope s_let_on) .none kV_let_on dc_let_on pm_let_on an_let_on cd_let_on ct_let_on), sl_let_on⟩) (c_let_on : PySem.W.codeIn K cd_let_on "let_on" = true) (k_let_on : PySem.W.keepIn K (.ref f_let_on) = true)
    {f_with_both : Addr} {od_with_both an_with_both : Option Addr} {sl_with_both : Array (Option Value)} {oc_with_both kV_with_both dc_with_both pm_with_both cd_with_both ct_with_both : Value}
    (a_with_both : PySem.W.nsIn K mainGlobals "with_both" = some (some (.ref f_with_both))) (l_with_both : K.lookup f_with_both = some ⟨oc_with_both, od_with_both, .func (PySem.W.fnOf "with_both" "with_both" (defArgs s_with_both) (defBody s_with_both) (defScope s_with_both) .none kV_with_both dc_with_both pm_with_both an_with_both cd_with_both ct_with_both), sl_with_both⟩) (c_with_both : PySem.W.codeIn K cd_with_both "with_both" = true) (k_with_both : PySem.W.keepIn K (.ref f_with_both) = true)
    {f_law_draws : Addr} {od_law_draws an_law_draws : Option Addr} {sl_law_draws : Array (Option Value)} {oc_law_draws kV_law_draws dc_law_draws pm_law_draws cd_law_draws ct_law_draws : Value}
    (a_law_draws : PySem.W.nsIn K mainGlobals "_law_draws" = some (some (.ref f_law_draws))) (l_law_draws : K.lookup f_law_draws = some ⟨oc_law_draws, od_law_draws, .func (PySem.W.fnOf "_law_draws" "_law_draws" (defArgs s_law_draws) (defBody s_law_draws) (defScope s_law_draws) .none kV_law_draws dc_law_draws pm_law_draws an_law_draws cd_law_draws ct_law_draws), sl_law_draws⟩) (c_law_draws : PySem.W.codeIn K cd_law_draws "_law_draws" = true) (k_law_draws : PySem.W.keepIn K (.ref f_law_draws) = true)
    {f_law_take : Addr} {od_law_take an_law_take : Option Addr} {sl_law_take : Array (Option Value)} {oc_law_take kV_law_take dc_law_take pm_law_take cd_law_take ct_law_take : Value}
    (a_law_take : PySem.W.nsIn K mainGlobals "_law_take" = some (some (.ref f_law_take))) (l_law_take : K.lookup f_law_take = some ⟨oc_law_take, od_law_take, .func (PySem.W.fnOf "_law_take" "_law_take" (defArgs s_law_take) (defBody s_law_take) (defScope s_law_take) .none kV_law_take dc_law_take pm_law_take an_law_take cd_law_take ct_law_take), sl_law_take⟩) (c_law_take : PySem.W.codeIn K cd_law_take "_law_take" = true) (k_law_take : PySem.W.keepIn K (.ref f_law_take) = true)
    {f_law_letters : Addr} {od_law_letters an_law_letters : Option Addr} {sl_law_letters : Array (Option Value)} {oc_law_letters kV_law_letters dc_law_letters pm_law_letters cd_law_letters ct_law_letters : Value}
    (a_law_letters : PySem.W.nsIn K mainGlobals "_law_letters" = some (some (.ref f_law_letters))) (l_law_letters : K.lookup f_law_letters = some ⟨oc_law_letters, od_law_letters, .func (PySem.W.fnOf "_law_letters" "_law_letters" (defArgs s_law_letters) (defBody s_law_letters) (defScope s_law_letters) .none kV_law_letters dc_law_letters pm_law_letters an_law_letters cd_law_letters ct_law_letters), sl_law_letters⟩) (c_law_letters : PySem.W.codeIn K cd_law_letters "_law_letters" = true) (k_law_letters : PySem.W.keepIn K (.ref f_law_letters) = true)
    {f_law_machine : Addr} {od_law_machine an_law_machine : Option Addr} {sl_law_machine : Array (Option Value)} {oc_law_machine kV_law_machine dc_law_machine pm_law_machine cd_law_machine ct_law_machine : Value}
    (a_law_machine : PySem.W.nsIn K mainGlobals "_law_machine" = some (some (.ref f_law_machine))) (l_law_machine : K.lookup f_law_machine = some ⟨oc_law_machine, od_law_machine, .func (PySem.W.fnOf "_law_machine" "_law_machine" (defArgs s_law_machine) (defBody s_law_machine) (defScope s_law_machine) .none kV_law_machine dc_law_machine pm_law_machine an_law_machine cd_law_machine ct_law_machine), sl_law_machine⟩) (c_law_machine : PySem.W.codeIn K cd_law_machine "_law_machine" = true) (k_law_machine : PySem.W.keepIn K (.ref f_law_machine) = true)
    {f_law_first_with : Addr} {od_law_first_with an_law_first_with : Option Addr} {sl_law_first_with : Array (Option Value)} {oc_law_first_with kV_law_first_with dc_law_first_with pm_law_first_with cd_law_first_with ct_law_first_with : Value}
    (a_law_first_with : PySem.W.nsIn K mainGlobals "_law_first_with" = some (some (.ref f_law_first_with))) (l_law_first_with : K.lookup f_law_first_with = some ⟨oc_law_first_with, od_law_first_with, .func (PySem.W.fnOf "_law_first_with" "_law_first_with" (defArgs s_law_first_with) (defBody s_law_first_with) (defScope s_law_first_with) .none kV_law_first_with dc_law_first_with pm_law_first_with an_law_first_with cd_law_first_with ct_law_first_with), sl_law_first_with⟩) (c_law_first_with : PySem.W.codeIn K cd_law_first_with "_law_first_with" = true) (k_law_first_with : PySem.W.keepIn K (.ref f_law_first_with) = true)
    {f_law_far_machine : Addr} {od_law_far_machine an_law_far_machine : Option Addr} {sl_law_far_machine : Array (Option Value)} {oc_law_far_machine kV_law_far_machine dc_law_far_machine pm_law_far_machine cd_law_far_machine ct_law_far_machine : Value}
    (a_law_far_machine : PySem.W.nsIn K mainGlobals "_law_far_machine" = some (some (.ref f_law_far_machine))) (l_law_far_machine : K.lookup f_law_far_machine = some ⟨oc_law_far_machine, od_law_far_machine, .func (PySem.W.fnOf "_law_far_machine" "_law_far_machine" (defArgs s_law_far_machine) (defBody s_law_far_machine) (defScope s_law_far_machine) .none kV_law_far_machine dc_law_far_machine pm_law_far_machine an_law_far_machine cd_law_far_machine ct_law_far_machine), sl_law_far_machine⟩) (c_law_far_machine : PySem.W.codeIn K cd_law_far_machine "_law_far_machine" = true) (k_law_far_machine : PySem.W.keepIn K (.ref f_law_far_machine) = true)
    {f_law : Addr} {od_law an_law : Option Addr} {sl_law : Array (Option Value)} {oc_law kV_law dc_law pm_law cd_law ct_law : Value}
    (a_law : PySem.W.nsIn K mainGlobals "law" = some (some (.ref f_law))) (l_law : K.lookup f_law = some ⟨oc_law, od_law, .func (PySem.W.fnOf "law" "law" (defArgs s_law) (defBody s_law) (defScope s_law) .none kV_law dc_law pm_law an_law cd_law ct_law), sl_law⟩) (c_law : PySem.W.codeIn K cd_law "law" = true) (k_law : PySem.W.keepIn K (.ref f_law) = true)
    (d_least_word_paired : pt_least_word ≠ pt_paired)
    (d_least_word_machine_of : pt_least_word ≠ pt_machine_of)
    (d_paired_least_word : pt_paired ≠ pt_least_word)
    (d_paired_machine_of : pt_paired ≠ pt_machine_of)
    (d_machine_of_least_word : pt_machine_of ≠ pt_least_word)
    (d_machine_of_paired : pt_machine_of ≠ pt_paired)
    (z_abs : PySem.W.nsIn K mainGlobals "abs" = some none)
    (z_all : PySem.W.nsIn K mainGlobals "all" = some none)
    (z_any : PySem.W.nsIn K mainGlobals "any" = some none)
    (z_enumerate : PySem.W.nsIn K mainGlobals "enumerate" = some none)
    (z_int : PySem.W.nsIn K mainGlobals "int" = some none)
    (z_isinstance : PySem.W.nsIn K mainGlobals "isinstance" = some none)
    (z_len : PySem.W.nsIn K mainGlobals "len" = some none)
    (z_list : PySem.W.nsIn K mainGlobals "list" = some none)
    (z_min : PySem.W.nsIn K mainGlobals "min" = some none)
    (z_range : PySem.W.nsIn K mainGlobals "range" = some none)
    (z_sorted : PySem.W.nsIn K mainGlobals "sorted" = some none)
    (z_str : PySem.W.nsIn K mainGlobals "str" = some none)
    (z_sum : PySem.W.nsIn K mainGlobals "sum" = some none)
    (z_tuple : PySem.W.nsIn K mainGlobals "tuple" = some none)
    (z_zip : PySem.W.nsIn K mainGlobals "zip" = some none)
    {t_MOST_ITEMS : Tok} (y_MOST_ITEMS : PySem.W.nsIn K mainGlobals "MOST_ITEMS" = some (some (.int 8 t_MOST_ITEMS)))
    : LamX.LawAtS l w K CX0 10 63 "script" mg fa h := by
  have e := hfa.symm.trans (PySem.W.mg_of X G a_law)
  cases e
  have F_built := fun_mk (st := s_built) l_built c_built k_built
  have F_walked := fun_mk (st := s_walked) l_walked c_walked k_walked
  have F_parted := fun_mk (st := s_parted) l_parted c_parted k_parted
  have F_first_groups := fun_mk (st := s_first_groups) l_first_groups c_first_groups k_first_groups
  have F_ways_back := fun_mk (st := s_ways_back) l_ways_back c_ways_back k_ways_back
  have F_hits_of := fun_mk (st := s_hits_of) l_hits_of c_hits_of k_hits_of
  have F_split_group := fun_mk (st := s_split_group) l_split_group c_split_group k_split_group
  have F_merged := fun_mk (st := s_merged) l_merged c_merged k_merged
  have F_least_read := fun_mk (st := s_least_read) l_least_read c_least_read k_least_read
  have F_unseen := fun_mk (st := s_unseen) l_unseen c_unseen k_unseen
  have F_word_to := fun_mk (st := s_word_to) l_word_to c_word_to k_word_to
  have F_rises := fun_mk (st := s_rises) l_rises c_rises k_rises
  have F_both := fun_mk (st := s_both) l_both c_both k_both
  have F_paired := fun_mk (st := s_paired) l_paired c_paired k_paired
  have F_end_marks := fun_mk (st := s_end_marks) l_end_marks c_end_marks k_end_marks
  have F_least_word := fun_mk (st := s_least_word) l_least_word c_least_word k_least_word
  have F_machine_of := fun_mk (st := s_machine_of) l_machine_of c_machine_of k_machine_of
  have F_branches_of := fun_mk (st := s_branches_of) l_branches_of c_branches_of k_branches_of
  have F_items_of := fun_mk (st := s_items_of) l_items_of c_items_of k_items_of
  have F_choice_at := fun_mk (st := s_choice_at) l_choice_at c_choice_at k_choice_at
  have F_bracket_at := fun_mk (st := s_bracket_at) l_bracket_at c_bracket_at k_bracket_at
  have F_mark_at := fun_mk (st := s_mark_at) l_mark_at c_mark_at k_mark_at
  have F_places_of := fun_mk (st := s_places_of) l_places_of c_places_of k_places_of
  have F_read := fun_mk (st := s_read) l_read c_read k_read
  have F_let_on := fun_mk (st := s_let_on) l_let_on c_let_on k_let_on
  have F_with_both := fun_mk (st := s_with_both) l_with_both c_with_both k_with_both
  have F_law_draws := fun_mk (st := s_law_draws) l_law_draws c_law_draws k_law_draws
  have F_law_take := fun_mk (st := s_law_take) l_law_take c_law_take k_law_take
  have F_law_letters := fun_mk (st := s_law_letters) l_law_letters c_law_letters k_law_letters
  have F_law_machine := fun_mk (st := s_law_machine) l_law_machine c_law_machine k_law_machine
  have F_law_first_with := fun_mk (st := s_law_first_with) l_law_first_with c_law_first_with k_law_first_with
  have F_law_far_machine := fun_mk (st := s_law_far_machine) l_law_far_machine c_law_far_machine k_law_far_machine
  have F_law := fun_mk (st := s_law) l_law c_law k_law
  let T : TX K mg := {
    a_built := f_built, fd_built := _, F_built := F_built, b_built := F_built.binds (ps := ["letters", "start", "follow", "is_end"]) (fun _ _ _ _ _ _ us hl => match us, hl with | [_, _, _, _], _ => rfl), g_built := PySem.W.mg_of X G a_built,
    a_walked := f_walked, fd_walked := _, F_walked := F_walked, b_walked := F_walked.binds (ps := ["start", "follow"]) (fun _ _ _ _ _ _ us hl => match us, hl with | [_, _], _ => rfl), g_walked := PySem.W.mg_of X G a_walked,
    a_parted := f_parted, fd_parted := _, F_parted := F_parted, b_parted := F_parted.binds (ps := ["table", "ended"]) (fun _ _ _ _ _ _ us hl => match us, hl with | [_, _], _ => rfl), g_parted := PySem.W.mg_of X G a_parted,
    a_first_groups := f_first_groups, fd_first_groups := _, F_first_groups := F_first_groups, b_first_groups := F_first_groups.binds (ps := ["ended"]) (fun _ _ _ _ _ _ us hl => match us, hl with | [_], _ => rfl), g_first_groups := PySem.W.mg_of X G a_first_groups,
    a_ways_back := f_ways_back, fd_ways_back := _, F_ways_back := F_ways_back, b_ways_back := F_ways_back.binds (ps := ["table"]) (fun _ _ _ _ _ _ us hl => match us, hl with | [_], _ => rfl), g_ways_back := PySem.W.mg_of X G a_ways_back,
    a_hits_of := f_hits_of, fd_hits_of := _, F_hits_of := F_hits_of, b_hits_of := F_hits_of.binds (ps := ["back", "targets", "homes"]) (fun _ _ _ _ _ _ us hl => match us, hl with | [_, _, _], _ => rfl), g_hits_of := PySem.W.mg_of X G a_hits_of,
    a_split_group := f_split_group, fd_split_group := _, F_split_group := F_split_group, b_split_group := F_split_group.binds (ps := ["groups", "homes", "home", "hit"]) (fun _ _ _ _ _ _ us hl => match us, hl with | [_, _, _, _], _ => rfl), g_split_group := PySem.W.mg_of X G a_split_group,
    a_merged := f_merged, fd_merged := _, F_merged := F_merged, b_merged := F_merged.binds (ps := ["letters", "table", "ended", "homes"]) (fun _ _ _ _ _ _ us hl => match us, hl with | [_, _, _, _], _ => rfl), g_merged := PySem.W.mg_of X G a_merged,
    a_least_read := f_least_read, fd_least_read := _, F_least_read := F_least_read, b_least_read := F_least_read.binds (ps := ["letters", "starts", "moves", "is_end"]) (fun _ _ _ _ _ _ us hl => match us, hl with | [_, _, _, _], _ => rfl), g_least_read := PySem.W.mg_of X G a_least_read,
    a_unseen := f_unseen, fd_unseen := _, F_unseen := F_unseen, b_unseen := F_unseen.binds (ps := ["lists", "seen"]) (fun _ _ _ _ _ _ us hl => match us, hl with | [_, _], _ => rfl), g_unseen := PySem.W.mg_of X G a_unseen,
    a_word_to := f_word_to, fd_word_to := _, F_word_to := F_word_to, b_word_to := F_word_to.binds (ps := ["number", "origins"]) (fun _ _ _ _ _ _ us hl => match us, hl with | [_, _], _ => rfl), g_word_to := PySem.W.mg_of X G a_word_to,
    a_rises := f_rises, fd_rises := _, F_rises := F_rises, b_rises := F_rises.binds (ps := ["row"]) (fun _ _ _ _ _ _ us hl => match us, hl with | [_], _ => rfl), g_rises := PySem.W.mg_of X G a_rises,
    a_both := f_both, fd_both := _, F_both := F_both, b_both := F_both.binds (ps := ["one", "other"]) (fun _ _ _ _ _ _ us hl => match us, hl with | [_, _], _ => rfl), g_both := PySem.W.mg_of X G a_both,
    a_paired := f_paired, fd_paired := _, F_paired := F_paired, b_paired := F_paired.binds (ps := ["one", "other", "wanted"]) (fun _ _ _ _ _ _ us hl => match us, hl with | [_, _, _], _ => rfl), g_paired := PySem.W.mg_of X G a_paired,
    a_end_marks := f_end_marks, fd_end_marks := _, F_end_marks := F_end_marks, b_end_marks := F_end_marks.binds (ps := ["machine"]) (fun _ _ _ _ _ _ us hl => match us, hl with | [_], _ => rfl), g_end_marks := PySem.W.mg_of X G a_end_marks,
    a_least_word := f_least_word, fd_least_word := _, F_least_word := F_least_word, b_least_word := F_least_word.binds (ps := ["machine"]) (fun _ _ _ _ _ _ us hl => match us, hl with | [_], _ => rfl), g_least_word := PySem.W.mg_of X G a_least_word,
    a_machine_of := f_machine_of, fd_machine_of := _, F_machine_of := F_machine_of, b_machine_of := F_machine_of.binds (ps := ["letters", "pattern"]) (fun _ _ _ _ _ _ us hl => match us, hl with | [_, _], _ => rfl), g_machine_of := PySem.W.mg_of X G a_machine_of,
    a_branches_of := f_branches_of, fd_branches_of := _, F_branches_of := F_branches_of, b_branches_of := F_branches_of.binds (ps := ["letters", "pattern"]) (fun _ _ _ _ _ _ us hl => match us, hl with | [_, _], _ => rfl), g_branches_of := PySem.W.mg_of X G a_branches_of,
    a_items_of := f_items_of, fd_items_of := _, F_items_of := F_items_of, b_items_of := F_items_of.binds (ps := ["letters", "branch"]) (fun _ _ _ _ _ _ us hl => match us, hl with | [_, _], _ => rfl), g_items_of := PySem.W.mg_of X G a_items_of,
    a_choice_at := f_choice_at, fd_choice_at := _, F_choice_at := F_choice_at, b_choice_at := F_choice_at.binds (ps := ["letters", "branch", "at"]) (fun _ _ _ _ _ _ us hl => match us, hl with | [_, _, _], _ => rfl), g_choice_at := PySem.W.mg_of X G a_choice_at,
    a_bracket_at := f_bracket_at, fd_bracket_at := _, F_bracket_at := F_bracket_at, b_bracket_at := F_bracket_at.binds (ps := ["letters", "branch", "at"]) (fun _ _ _ _ _ _ us hl => match us, hl with | [_, _, _], _ => rfl), g_bracket_at := PySem.W.mg_of X G a_bracket_at,
    a_mark_at := f_mark_at, fd_mark_at := _, F_mark_at := F_mark_at, b_mark_at := F_mark_at.binds (ps := ["branch", "at"]) (fun _ _ _ _ _ _ us hl => match us, hl with | [_, _], _ => rfl), g_mark_at := PySem.W.mg_of X G a_mark_at,
    a_places_of := f_places_of, fd_places_of := _, F_places_of := F_places_of, b_places_of := F_places_of.binds (ps := ["branches"]) (fun _ _ _ _ _ _ us hl => match us, hl with | [_], _ => rfl), g_places_of := PySem.W.mg_of X G a_places_of,
    a_read := f_read, fd_read := _, F_read := F_read, b_read := F_read.binds (ps := ["places", "held", "letter"]) (fun _ _ _ _ _ _ us hl => match us, hl with | [_, _, _], _ => rfl), g_read := PySem.W.mg_of X G a_read,
    a_let_on := f_let_on, fd_let_on := _, F_let_on := F_let_on, b_let_on := F_let_on.binds (ps := ["places", "numbers"]) (fun _ _ _ _ _ _ us hl => match us, hl with | [_, _], _ => rfl), g_let_on := PySem.W.mg_of X G a_let_on,
    a_with_both := f_with_both, fd_with_both := _, F_with_both := F_with_both, b_with_both := F_with_both.binds (ps := ["machine", "one", "other"]) (fun _ _ _ _ _ _ us hl => match us, hl with | [_, _, _], _ => rfl), g_with_both := PySem.W.mg_of X G a_with_both,
    a_law_draws := f_law_draws, fd_law_draws := _, F_law_draws := F_law_draws, b_law_draws := F_law_draws.binds (ps := ["script"]) (fun _ _ _ _ _ _ us hl => match us, hl with | [_], _ => rfl), g_law_draws := PySem.W.mg_of X G a_law_draws,
    a_law_take := f_law_take, fd_law_take := _, F_law_take := F_law_take, b_law_take := F_law_take.binds (ps := ["draws", "many"]) (fun _ _ _ _ _ _ us hl => match us, hl with | [_, _], _ => rfl), g_law_take := PySem.W.mg_of X G a_law_take,
    a_law_letters := f_law_letters, fd_law_letters := _, F_law_letters := F_law_letters, b_law_letters := F_law_letters.binds (ps := ["draws", "most"]) (fun _ _ _ _ _ _ us hl => match us, hl with | [_, _], _ => rfl), g_law_letters := PySem.W.mg_of X G a_law_letters,
    a_law_machine := f_law_machine, fd_law_machine := _, F_law_machine := F_law_machine, b_law_machine := F_law_machine.binds (ps := ["draws", "letters", "most"]) (fun _ _ _ _ _ _ us hl => match us, hl with | [_, _, _], _ => rfl), g_law_machine := PySem.W.mg_of X G a_law_machine,
    a_law_first_with := f_law_first_with, fd_law_first_with := _, F_law_first_with := F_law_first_with, b_law_first_with := F_law_first_with.binds (ps := ["machine", "one", "other"]) (fun _ _ _ _ _ _ us hl => match us, hl with | [_, _, _], _ => rfl), g_law_first_with := PySem.W.mg_of X G a_law_first_with,
    a_law_far_machine := f_law_far_machine, fd_law_far_machine := _, F_law_far_machine := F_law_far_machine, b_law_far_machine := F_law_far_machine.binds (ps := ["draws", "letters", "one", "other"]) (fun _ _ _ _ _ _ us hl => match us, hl with | [_, _, _, _], _ => rfl), g_law_far_machine := PySem.W.mg_of X G a_law_far_machine,
    m_abs := PySem.W.mg_none_of X G z_abs,
    m_all := PySem.W.mg_none_of X G z_all,
    m_any := PySem.W.mg_none_of X G z_any,
    m_enumerate := PySem.W.mg_none_of X G z_enumerate,
    m_int := PySem.W.mg_none_of X G z_int,
    m_isinstance := PySem.W.mg_none_of X G z_isinstance,
    m_len := PySem.W.mg_none_of X G z_len,
    m_list := PySem.W.mg_none_of X G z_list,
    m_min := PySem.W.mg_none_of X G z_min,
    m_range := PySem.W.mg_none_of X G z_range,
    m_sorted := PySem.W.mg_none_of X G z_sorted,
    m_str := PySem.W.mg_none_of X G z_str,
    m_sum := PySem.W.mg_none_of X G z_sum,
    m_tuple := PySem.W.mg_none_of X G z_tuple,
    m_zip := PySem.W.mg_none_of X G z_zip,
    t_MOST_ITEMS := t_MOST_ITEMS, c_MOST_ITEMS := PySem.W.mg_of X G y_MOST_ITEMS }
  refine ⟨PySem.W.fnOf "law" "law" (defArgs s_law) (defBody s_law) (defScope s_law) .none kV_law dc_law pm_law an_law cd_law ct_law, [(cr_least_word, pt_least_word), (cr_paired, pt_paired), (cr_machine_of, pt_machine_of)], sp_law K [(pt_least_word, nm_least_word), (pt_paired, nm_paired), (pt_machine_of, nm_machine_of)], (fun p hp => by
      simp only [List.mem_cons, List.mem_nil_iff, or_false] at hp
      rcases hp with rfl | rfl | rfl
      · exact e_least_word
      · exact e_paired
      · exact e_machine_of), (fun p hp => by
      simp only [List.mem_cons, List.mem_nil_iff, or_false] at hp
      rcases hp with rfl | rfl | rfl
      · exact n_least_word
      · exact n_paired
      · exact n_machine_of), (fun p hp => by
      simp only [List.mem_cons, List.mem_nil_iff, or_false] at hp
      rcases hp with rfl | rfl | rfl
      · exact PySem.W.codeHd_of_K X h_least_word
      · exact PySem.W.codeHd_of_K X h_paired
      · exact PySem.W.codeHd_of_K X h_machine_of), fun s v => .of_eq rfl, fun H a ns hl _ ht hS => ⟨a, ns, rfl, hS, hl, (fun p hp => by
      simp only [List.mem_cons, List.mem_nil_iff, or_false] at hp
      rcases hp with rfl | rfl | rfl
      · exact NdefX.TabN.nil (ht (cr_least_word, pt_least_word) (by simp))
      · exact NdefX.TabN.nil (ht (cr_paired, pt_paired) (by simp))
      · exact NdefX.TabN.nil (ht (cr_machine_of, pt_machine_of) (by simp))), fun _ => rfl⟩, fun base _ _ tB => ?_⟩
  have C_least_word : FunC K "least_word" "least_word" s_least_word T.a_least_word T.fd_least_word cr_least_word := ⟨_, _, _, _, _, _, _, _, rfl, l_least_word, c_least_word⟩
  have G_least_word := ok_least_word (P := l.prog) (w := w) (base := base) T (tabs := [(pt_least_word, nm_least_word), (pt_paired, nm_paired), (pt_machine_of, nm_machine_of)]) C_least_word (tB (cr_least_word, pt_least_word) (by simp)) (by simp) (fun p hp hpe => by
    simp only [List.mem_cons, List.mem_nil_iff, or_false] at hp
    rcases hp with rfl | rfl | rfl
    · rfl
    · exact absurd hpe d_paired_least_word
    · exact absurd hpe d_machine_of_least_word)
  have C_paired : FunC K "paired" "paired" s_paired T.a_paired T.fd_paired cr_paired := ⟨_, _, _, _, _, _, _, _, rfl, l_paired, c_paired⟩
  have G_paired := ok_paired (P := l.prog) (w := w) (base := base) T (tabs := [(pt_least_word, nm_least_word), (pt_paired, nm_paired), (pt_machine_of, nm_machine_of)]) C_paired (tB (cr_paired, pt_paired) (by simp)) (by simp) (fun p hp hpe => by
    simp only [List.mem_cons, List.mem_nil_iff, or_false] at hp
    rcases hp with rfl | rfl | rfl
    · exact absurd hpe d_least_word_paired
    · rfl
    · exact absurd hpe d_machine_of_paired)
  have C_machine_of : FunC K "machine_of" "machine_of" s_machine_of T.a_machine_of T.fd_machine_of cr_machine_of := ⟨_, _, _, _, _, _, _, _, rfl, l_machine_of, c_machine_of⟩
  have G_machine_of := ok_machine_of (P := l.prog) (w := w) (base := base) T (tabs := [(pt_least_word, nm_least_word), (pt_paired, nm_paired), (pt_machine_of, nm_machine_of)]) C_machine_of (tB (cr_machine_of, pt_machine_of) (by simp)) (by simp) (fun p hp hpe => by
    simp only [List.mem_cons, List.mem_nil_iff, or_false] at hp
    rcases hp with rfl | rfl | rfl
    · exact absurd hpe d_least_word_machine_of
    · exact absurd hpe d_paired_machine_of
    · rfl)
  exact ok_law F_law T G_least_word G_paired G_machine_of
end LH
open PySem PySem.W PyProof.Rows
set_option maxHeartbeats 0 in
theorem PySem.Challenge.cw_likehands_k78_words_with_both_holds : PySem.Challenge.rw_likehands_k78_words_with_both.Holds := by
  w_on; o_law; k_head; (case hw => w_witness2)
  k_fill
  refine LamX.walk_ofTs (l := PySem.Challenge.rw_likehands_k78_words_with_both) (n := 63) (k := 10) (x := "script") (CX := fun _ => L2.CX0) rfl (by decide) rfl ⟨rfl, by decide, by decide⟩ (fun w h Y => PySem.W.km_in_of Y) ?F (fun _ _ _ _ _ h => h)
  case F =>
    intro w mg fa h Y KX G hmg
    have tt := PySem.W.km_tabs_of Y
    refine' LH.all_mk KX G hmg ?a_built ?l_built ?c_built ?k_built ?a_walked ?l_walked ?c_walked ?k_walked ?a_parted ?l_parted ?c_parted ?k_parted ?a_first_groups ?l_first_groups ?c_first_groups ?k_first_groups ?a_ways_back ?l_ways_back ?c_ways_back ?k_ways_back ?a_hits_of ?l_hits_of ?c_hits_of ?k_hits_of ?a_split_group ?l_split_group ?c_split_group ?k_split_group ?a_merged ?l_merged ?c_merged ?k_merged ?a_least_read ?l_least_read ?c_least_read ?k_least_read ?a_unseen ?l_unseen ?c_unseen ?k_unseen ?a_word_to ?l_word_to ?c_word_to ?k_word_to ?a_rises ?l_rises ?c_rises ?k_rises ?a_both ?l_both ?c_both ?k_both ?a_paired ?l_paired ?c_paired ?k_paired ?h_paired ?n_paired (tt 91 (by simp)) ?a_end_marks ?l_end_marks ?c_end_marks ?k_end_marks ?a_least_word ?l_least_word ?c_least_word ?k_least_word ?h_least_word ?n_least_word (tt 103 (by simp)) ?a_machine_of ?l_machine_of ?c_machine_of ?k_machine_of ?h_machine_of ?n_machine_of (tt 135 (by simp)) ?a_branches_of ?l_branches_of ?c_branches_of ?k_branches_of ?a_items_of ?l_items_of ?c_items_of ?k_items_of ?a_choice_at ?l_choice_at ?c_choice_at ?k_choice_at ?a_bracket_at ?l_bracket_at ?c_bracket_at ?k_bracket_at ?a_mark_at ?l_mark_at ?c_mark_at ?k_mark_at ?a_places_of ?l_places_of ?c_places_of ?k_places_of ?a_read ?l_read ?c_read ?k_read ?a_let_on ?l_let_on ?c_let_on ?k_let_on ?a_with_both ?l_with_both ?c_with_both ?k_with_both ?a_law_draws ?l_law_draws ?c_law_draws ?k_law_draws ?a_law_take ?l_law_take ?c_law_take ?k_law_take ?a_law_letters ?l_law_letters ?c_law_letters ?k_law_letters ?a_law_machine ?l_law_machine ?c_law_machine ?k_law_machine ?a_law_first_with ?l_law_first_with ?c_law_first_with ?k_law_first_with ?a_law_far_machine ?l_law_far_machine ?c_law_far_machine ?k_law_far_machine ?a_law ?l_law ?c_law ?k_law (by decide) (by decide) (by decide) (by decide) (by decide) (by decide) ?z_abs ?z_all ?z_any ?z_enumerate ?z_int ?z_isinstance ?z_len ?z_list ?z_min ?z_range ?z_sorted ?z_str ?z_sum ?z_tuple ?z_zip ?y_MOST_ITEMS
    (case a_built => k_is)
    (case l_built => k_is)
    (case c_built => k_is)
    (case k_built => k_is)
    (case a_walked => k_is)
    (case l_walked => k_is)
    (case c_walked => k_is)
    (case k_walked => k_is)
    (case a_parted => k_is)
    (case l_parted => k_is)
    (case c_parted => k_is)
    (case k_parted => k_is)
    (case a_first_groups => k_is)
    (case l_first_groups => k_is)
    (case c_first_groups => k_is)
    (case k_first_groups => k_is)
    (case a_ways_back => k_is)
    (case l_ways_back => k_is)
    (case c_ways_back => k_is)
    (case k_ways_back => k_is)
    (case a_hits_of => k_is)
    (case l_hits_of => k_is)
    (case c_hits_of => k_is)
    (case k_hits_of => k_is)
    (case a_split_group => k_is)
    (case l_split_group => k_is)
    (case c_split_group => k_is)
    (case k_split_group => k_is)
    (case a_merged => k_is)
    (case l_merged => k_is)
    (case c_merged => k_is)
    (case k_merged => k_is)
    (case a_least_read => k_is)
    (case l_least_read => k_is)
    (case c_least_read => k_is)
    (case k_least_read => k_is)
    (case a_unseen => k_is)
    (case l_unseen => k_is)
    (case c_unseen => k_is)
    (case k_unseen => k_is)
    (case a_word_to => k_is)
    (case l_word_to => k_is)
    (case c_word_to => k_is)
    (case k_word_to => k_is)
    (case a_rises => k_is)
    (case l_rises => k_is)
    (case c_rises => k_is)
    (case k_rises => k_is)
    (case a_both => k_is)
    (case l_both => k_is)
    (case c_both => k_is)
    (case k_both => k_is)
    (case a_paired => k_is)
    (case l_paired => k_is)
    (case c_paired => k_is)
    (case k_paired => k_is)
    (case h_paired => first | kernel_rfl | rfl | decide +kernel)
    (case n_paired => first | kernel_rfl | rfl | decide +kernel)
    (case a_end_marks => k_is)
    (case l_end_marks => k_is)
    (case c_end_marks => k_is)
    (case k_end_marks => k_is)
    (case a_least_word => k_is)
    (case l_least_word => k_is)
    (case c_least_word => k_is)
    (case k_least_word => k_is)
    (case h_least_word => first | kernel_rfl | rfl | decide +kernel)
    (case n_least_word => first | kernel_rfl | rfl | decide +kernel)
    (case a_machine_of => k_is)
    (case l_machine_of => k_is)
    (case c_machine_of => k_is)
    (case k_machine_of => k_is)
    (case h_machine_of => first | kernel_rfl | rfl | decide +kernel)
    (case n_machine_of => first | kernel_rfl | rfl | decide +kernel)
    (case a_branches_of => k_is)
    (case l_branches_of => k_is)
    (case c_branches_of => k_is)
    (case k_branches_of => k_is)
    (case a_items_of => k_is)
    (case l_items_of => k_is)
    (case c_items_of => k_is)
    (case k_items_of => k_is)
    (case a_choice_at => k_is)
    (case l_choice_at => k_is)
    (case c_choice_at => k_is)
    (case k_choice_at => k_is)
    (case a_bracket_at => k_is)
    (case l_bracket_at => k_is)
    (case c_bracket_at => k_is)
    (case k_bracket_at => k_is)
    (case a_mark_at => k_is)
    (case l_mark_at => k_is)
    (case c_mark_at => k_is)
    (case k_mark_at => k_is)
    (case a_places_of => k_is)
    (case l_places_of => k_is)
    (case c_places_of => k_is)
    (case k_places_of => k_is)
    (case a_read => k_is)
    (case l_read => k_is)
    (case c_read => k_is)
    (case k_read => k_is)
    (case a_let_on => k_is)
    (case l_let_on => k_is)
    (case c_let_on => k_is)
    (case k_let_on => k_is)
    (case a_with_both => k_is)
    (case l_with_both => k_is)
    (case c_with_both => k_is)
    (case k_with_both => k_is)
    (case a_law_draws => k_is)
    (case l_law_draws => k_is)
    (case c_law_draws => k_is)
    (case k_law_draws => k_is)
    (case a_law_take => k_is)
    (case l_law_take => k_is)
    (case c_law_take => k_is)
    (case k_law_take => k_is)
    (case a_law_letters => k_is)
    (case l_law_letters => k_is)
    (case c_law_letters => k_is)
    (case k_law_letters => k_is)
    (case a_law_machine => k_is)
    (case l_law_machine => k_is)
    (case c_law_machine => k_is)
    (case k_law_machine => k_is)
    (case a_law_first_with => k_is)
    (case l_law_first_with => k_is)
    (case c_law_first_with => k_is)
    (case k_law_first_with => k_is)
    (case a_law_far_machine => k_is)
    (case l_law_far_machine => k_is)
    (case c_law_far_machine => k_is)
    (case k_law_far_machine => k_is)
    (case a_law => k_is)
    (case l_law => k_is)
    (case c_law => k_is)
    (case k_law => k_is)
    (case z_abs => k_is)
    (case z_all => k_is)
    (case z_any => k_is)
    (case z_enumerate => k_is)
    (case z_int => k_is)
    (case z_isinstance => k_is)
    (case z_len => k_is)
    (case z_list => k_is)
    (case z_min => k_is)
    (case z_range => k_is)
    (case z_sorted => k_is)
    (case z_str => k_is)
    (case z_sum => k_is)
    (case z_tuple => k_is)
    (case z_zip => k_is)
    (case y_MOST_ITEMS => k_is)
