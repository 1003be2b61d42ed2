import PyProof.Rows.All
import Wide.All
import OpenK.AllK
import Wide.FinOn
import HandS.ForMost
import HandS.Style
import HandS.IsInst
import HandS.Replace
import HandS.Wide
import HandS.Codes
import HandS.Walk
import HandS.DictComp
import HandS.Conv
import HandS.Nested
import HandS.EndTab
import PyProof.ListStr
import PyProof.StrOps2
import HandS.Deep
import HandS.DictTup
import HandS.Iter
import HandS.Set
import HandS.SetKeys
import HandS.SetTxt0
import HandS.SortRule
import HandS.Strs
import HandS.Style
import HandS.Zip
import KE.GoesMore
import KE.GoesZip
import KE.KDictZip
import KE.KNestM
import KE.KeyNested
import KE.SortData
import PyProof.EnumMake
import PyProof.P3Eq
import PyProof.P3In
import PyProof.Rows.SetFrom
import PyProof.Rows.SortShellAny
import PySem.Challenge.RW_likehands_k60_whole_views_put_together
set_option Elab.async false
set_option linter.all false
set_option maxRecDepth 100000
set_option maxHeartbeats 4000000
namespace LH
open PySem PySem.Spec PyProof.Rows L2
/-! ### list(text) -/
section
variable {X : Cx}
def sgns (z : Str) : List V := z.cps.toList.map fun c => V.str ⟨#[c]⟩
theorem sgns_len (z : Str) : (sgns z).length = z.length := by
  unfold sgns
  rw [List.length_map, Array.length_toList]
  rfl
theorem vals_by : ∀ {xs : List V} {us : List Value}, xs.length = us.length → (∀ (j : Nat) (x : V) (u : Value), xs[j]? = some x → us[j]? = some u → RelV x u) → Vals xs us
  | [], [], _, _ => .nil
  | [], _ :: _, h, _ => by cases h
  | _ :: _, [], h, _ => by cases h
  | x :: xs, u :: us, h, q => .cons (q 0 x u rfl rfl) (vals_by (Nat.succ.inj h) fun j y v a b => q (j + 1) y v a b)
theorem vals_sgns {z : Str} {acc : Array Value} (h : ItemsOf (SignAt z) acc z.cps.size) : Vals (sgns z) acc.toList := by
  have hn : acc.size = z.cps.size := h.1
  refine vals_by ?_ fun j x u a b => ?_
  · rw [sgns_len, Array.length_toList, hn]
    rfl
  · rw [Array.getElem?_toList] at b
    obtain ⟨c, t, e1, e2⟩ := h.2 j u b
    unfold sgns at a
    rw [List.getElem?_map, Array.getElem?_toList, e1] at a
    cases a
    subst e2
    exact ⟨_, rfl⟩
theorem call_listS (hc : X.calm = true) : CallR X (.type "list") (fun xs H Q => ∃ z : Str, xs = [.str z] ∧ z.length ≤ sizeLine ∧ ∀ p, H p = none → Q (.ref p) (upd H p (.lst (sgns z)))) := by
  intro pins s σ H xs us Q I r h
  obtain ⟨z, rfl, hz, q⟩ := h
  obtain ⟨u, rfl, rx⟩ := vals1 r
  obtain ⟨t, rfl⟩ := rx
  refine PySem.call_list_str (I.ok.hd hc) z t (fun h' tk acc' c' kp e ha => ?_) hz
  exact ⟨.ref s.heap.objs.size, _, I.laid (t' := tk) kp (Nat.le_refl _) (show ObjOk X.prog X.w _ h' _ (.lst (sgns z)) from ⟨by rw [sgns_len]; exact hz, acc'.toList, c', vals_sgns ha, e⟩), rfl, q _ (I.hok.fresh (Nat.le_refl _))⟩
/-! ### text * number -/
def repS (z : Str) (n : Nat) : Str := ⟨(List.replicate n z.cps.toList).flatten.toArray⟩
theorem foldl_repS (z : Array Nat) : ∀ (n : Nat) (a : Array Nat), (List.replicate n z).foldl (· ++ ·) a = a ++ (List.replicate n z.toList).flatten.toArray
  | 0, a => by simp
  | n + 1, a => by
    rw [List.replicate_succ, List.foldl_cons, foldl_repS z n (a ++ z), List.replicate_succ, List.flatten_cons]
    apply Array.ext'
    simp
theorem repS_eq (z : Str) (n : Nat) : (⟨(List.replicate n z.cps).foldl (· ++ ·) #[]⟩ : Str) = repS z n := by
  rw [foldl_repS]
  unfold repS
  simp
theorem repS_one (z : Str) : repS z 1 = z := by
  unfold repS
  simp
theorem repS_len (z : Str) (n : Nat) : (repS z n).length = n * z.length := by
  show (List.replicate n z.cps.toList).flatten.toArray.size = n * z.cps.size
  rw [List.size_toArray, List.length_flatten, List.map_replicate, List.sum_replicate_nat, Array.length_toList]
theorem op_repS : OpR X (binaryOp .Mult) (fun x y H Q => ∃ (z : Str) (n : Int), x = .str z ∧ y = .int n ∧ 1 ≤ n ∧ n ≤ 1000 ∧ z.length ≤ 1000 ∧ Q (.str (repS z n.toNat)) H) := by
  intro pins s σ H x y v u Q I rx ry h
  obtain ⟨z, n, rfl, rfl, h1, h2, hz, q⟩ := h
  obtain ⟨t, rfl⟩ := rx
  obtain ⟨t', rfl⟩ := ry
  have hlen : z.length * n.toNat ≤ 1000000 := Nat.le_trans (Nat.mul_le_mul hz (show n.toNat ≤ 1000 by omega)) (by decide)
  refine PySem.P.mul_str ?_ (fun _ _ => ?_) (fun _ _ => ?_) ?_
  · rw [decide_eq_false (show ¬ n < -(2 ^ 63 : Int) by omega), decide_eq_false (show ¬ n ≥ 2 ^ 63 by omega)]
    rfl
  · have : (1000 : Int) ≤ (2 ^ 63 - 1) / n := by
      rw [Int.le_ediv_iff_mul_le (by omega)]
      omega
    omega
  · exact decide_eq_false (by
      have e : (1000000 : Nat) ≤ sizeLine := by decide
      omega)
  · rw [if_neg (show ¬ n < 1 by omega)]
    by_cases hc : (n == 1 || z.length == 0) = true
    · rw [if_pos hc]
      have e : repS z n.toNat = z := by
        rw [Bool.or_eq_true] at hc
        rcases hc with hc | hc
        · have : n = 1 := eq_of_beq hc
          subst this
          exact repS_one z
        · have h0 : z.cps.size = 0 := eq_of_beq hc
          have : z.cps = #[] := Array.eq_empty_of_size_eq_zero h0
          unfold repS
          rw [this]
          obtain ⟨a⟩ := z
          have : a = #[] := this
          subst this
          congr 1
          apply Array.ext'
          simp
      rw [e] at q
      exact ⟨.str z, H, I, ⟨_, rfl⟩, q⟩
    · rw [if_neg hc, repS_eq]
      refine ⟨?_, .str _, H, I.tok _, ⟨_, rfl⟩, q⟩
      show (repS z n.toNat).length ≤ sizeLine
      rw [repS_len, Nat.mul_comm]
      exact Nat.le_trans hlen (by decide)
end
/-! ### one sign in a text: its first place -/
theorem idxOf_le {c : Nat} : ∀ {xs : List Nat} {i : Nat}, xs[i]? = some c → xs.idxOf c ≤ i
  | [], i, h => by simp at h
  | x :: xs, i, h => by
    rw [List.idxOf_cons]
    by_cases e : x = c
    · subst e
      simp
    · cases i with
      | zero =>
        simp at h
        exact absurd h e
      | succ i =>
        have := idxOf_le (xs := xs) (i := i) (by simpa using h)
        rw [show (x == c) = false from beq_eq_false_iff_ne.mpr e]
        show xs.idxOf c + 1 ≤ i + 1
        omega
theorem occ_sign {z : Str} {c : Nat} (h : c ∈ z.cps.toList) : ∃ r, Builtin.Str.occurrences z ⟨#[c]⟩ 0 z.length 1 = z.cps.toList.idxOf c :: r := by
  have key : ∀ i, StrLaws.At z ⟨#[c]⟩ z.length i ↔ z.cps.toList[i]? = some c := fun i => StrLaws.subAt_one z c i
  have hi : z.cps.toList.idxOf c < z.cps.toList.length := List.idxOf_lt_length_iff.mpr h
  have e0 : z.cps.toList[z.cps.toList.idxOf c]? = some c := by
    rw [List.getElem?_eq_getElem hi, List.getElem_idxOf]
  rcases StrLaws.occ_head z ⟨#[c]⟩ 1 (Nat.le_refl _) with ⟨_, hn⟩ | ⟨i, r, e, ha, hn⟩
  · exact absurd ((key _).mpr e0) (hn _)
  · refine ⟨r, ?_⟩
    rw [e]
    congr 1
    have a1 : ¬ z.cps.toList.idxOf c < i := fun q => hn _ q ((key _).mpr e0)
    have a2 := idxOf_le ((key i).mp ha)
    omega
theorem find_sign {z : Str} {c : Nat} (h : c ∈ z.cps.toList) : Txt.find z ⟨#[c]⟩ = (z.cps.toList.idxOf c : Nat) := by
  obtain ⟨r, e⟩ := occ_sign h
  unfold Txt.find
  rw [e]
/-! ### texts of signs -/
abbrev sg (c : Nat) : Str := ⟨#[c]⟩
abbrev vs_ (cs : List Nat) : List V := cs.map fun c => V.str (sg c)
theorem join_sg : ∀ cs : List Nat, Txt.join ⟨#[]⟩ (cs.map sg) = ⟨cs.toArray⟩ := fun cs => by
  rw [TL.join_eq]
  induction cs with
  | nil => rfl
  | cons c r ih =>
    cases r with
    | nil => rfl
    | cons d r =>
      show sg c ++ ⟨#[]⟩ ++ Str.join ⟨#[]⟩ ((d :: r).map sg) = _
      rw [ih]
      show (⟨(#[c] ++ #[]) ++ (d :: r).toArray⟩ : Str) = ⟨(c :: d :: r).toArray⟩
      congr 1
      apply Array.ext'
      simp
theorem risingS_sg : ∀ (cs : List Nat) (c : Nat), risingS (sg c) (cs.map sg) = true → (c :: cs).Pairwise (· ≤ ·)
  | [], c, _ => by simp
  | d :: r, c, h => by
    have h : (!ltCps [d] [c] && risingS (sg d) (r.map sg)) = true := h
    rw [Bool.and_eq_true] at h
    have ih := risingS_sg r d h.2
    have hcd : c ≤ d := by
      have := h.1
      simp [ltCps] at this
      exact this
    refine List.Pairwise.cons (fun x hx => ?_) ih
    rcases List.mem_cons.mp hx with rfl | hx
    · exact hcd
    · exact Nat.le_trans hcd (List.rel_of_pairwise_cons ih hx)
theorem sortedS_sg {cs : List Nat} (h : sortedS (cs.map sg) = true) : cs.Pairwise (· ≤ ·) := by
  cases cs with
  | nil => simp
  | cons c r => exact risingS_sg r c h
/-- what a sort of one-sign texts gives -/
theorem perm_sg {cs : List Nat} {ys : List Str} (h : ys.Perm (cs.map sg)) : ∃ ds : List Nat, ys = ds.map sg ∧ ds.Perm cs := by
  let f : Str → Nat := fun z => z.cps.getD 0 0
  have hm := h.map f
  rw [List.map_map, show f ∘ sg = id from rfl, List.map_id] at hm
  refine ⟨ys.map f, ?_, hm⟩
  rw [List.map_map]
  have : ∀ y ∈ ys, (sg ∘ f) y = y := fun y hy => by
    obtain ⟨c, _, rfl⟩ := List.mem_map.mp (h.mem_iff.mp hy)
    rfl
  conv => lhs; rw [← List.map_id ys]
  exact List.map_congr_left fun y hy => (this y hy).symm
structure IsLet (z : Str) : Prop where
  one : 1 ≤ z.length
  five : z.length ≤ 5
  rise : z.cps.toList.Pairwise (· < ·)
  small : ∀ c ∈ z.cps.toList, 97 ≤ c ∧ c ≤ 122
theorem rise_of {cs : List Nat} (h : cs.Pairwise (· ≤ ·)) (n : cs.Nodup) : cs.Pairwise (· < ·) := by
  have := List.Pairwise.and h n
  exact this.imp fun ⟨a, b⟩ => Nat.lt_of_le_of_ne a b
theorem mem_az {c : Nat} (h : c ∈ (List.range 26).map (97 + ·)) : 97 ≤ c ∧ c ≤ 122 := by
  obtain ⟨k, hk, rfl⟩ := List.mem_map.mp h
  have := List.mem_range.mp hk
  omega
theorem cutV_map {f : Nat → V} (cs : List Nat) (lo hi : Option Int) : cutV (cs.map f) lo hi = ((cs.drop (HT.sIx cs.length 0 lo)).take (HT.sIx cs.length cs.length hi - HT.sIx cs.length 0 lo)).map f := by
  unfold cutV
  rw [List.length_map, List.map_take, List.map_drop]
theorem cut_from (cs : List Nat) (g : Nat) : (cs.drop (HT.sIx cs.length 0 (some (g : Int)))).take (HT.sIx cs.length cs.length none - HT.sIx cs.length 0 (some (g : Int))) = cs.drop g := by
  rw [HT.sIx_nat, HT.sIx_none]
  by_cases h : g ≤ cs.length
  · rw [Nat.min_eq_left h, List.take_of_length_le (by rw [List.length_drop] <;> omega)]
  · rw [Nat.min_eq_right (by omega), List.drop_of_length_le (by omega), List.drop_of_length_le (by omega), List.take_nil]
theorem cut_to (cs : List Nat) (g : Nat) : (cs.drop (HT.sIx cs.length 0 none)).take (HT.sIx cs.length cs.length (some (g : Int)) - HT.sIx cs.length 0 none) = cs.take g := by
  rw [HT.sIx_nat, HT.sIx_none, Nat.sub_zero, List.drop_zero]
  by_cases h : g ≤ cs.length
  · rw [Nat.min_eq_left h]
  · rw [Nat.min_eq_right (by omega), List.take_of_length_le (Nat.le_refl _), List.take_of_length_le (by omega)]
theorem seqIx {i : Int} {n : Nat} (h0 : 0 ≤ i) (h1 : i < n) : seqIndex? i n = some i.toNat := by
  unfold seqIndex?
  have e : ¬ i < 0 := by omega
  simp [h0, h1, e]
theorem atI_of {xs : List V} {i : Int} {v : V} (h0 : 0 ≤ i) (h : xs[i.toNat]? = some v) : atI xs i = some v := at_of (j := i.toNat) (by omega) h
theorem erase_perm (ls : List Nat) (k : Nat) (h : k < ls.length) : ls.Perm (ls[k] :: ls.eraseIdx k) := by
  rw [List.eraseIdx_eq_take_drop_succ]
  conv => lhs; rw [← List.take_append_drop k ls, List.drop_eq_getElem_cons h]
  exact List.perm_middle
theorem sgns_az : sgns "abcdefghijklmnopqrstuvwxyz" = vs_ ((List.range 26).map (97 + ·)) := by decide +kernel
/-! ### the rules that speak of the written part, by a K of their own (so that they may stand within a comprehension) -/
section
variable {X : Cx} (K : PySem.W.Frag) (hK : X.K = K)
def rLenK : List V → Hp → VK → Prop := fun xs H Q => ∃ p ys, xs = [.ref p] ∧ (SqL K H p ys ∨ SqT K H p ys) ∧ Q (.int ys.length) H
def rListK : List V → Hp → VK → Prop := fun xs H Q => ∃ p ys, xs = [.ref p] ∧ (SqL K H p ys ∨ SqT K H p ys) ∧ ∀ l, H l = none → Q (.ref l) (upd H l (.lst ys))
def rTupleK : List V → Hp → VK → Prop := fun xs H Q => ∃ p ys, xs = [.ref p] ∧ ((SqL K H p ys ∧ ∀ l, H l = none → Q (.ref l) (upd H l (.tup ys))) ∨ (SqT K H p ys ∧ Q (.ref p) H))
def rJoinK : V → List V → Hp → VK → Prop := fun x xs H Q => ∃ a p, ∃ ys : List Str, x = .str a ∧ xs = [.ref p] ∧ (SqL K H p (ys.map V.str) ∨ SqT K H p (ys.map V.str)) ∧ (ys.map (·.length)).sum + ys.length * a.length ≤ 16777216 ∧ Q (.str (Txt.join a ys)) H
include hK
theorem ix_listK : IxR X (rIxL K) := by subst hK; exact ix_list
theorem ix_tupK : IxR X (rIxT K) := by subst hK; exact ix_tup
theorem sl_listK : SlR X (rSlL K) := by subst hK; exact sl_list
theorem sl_tupK : SlR X (rSlT K) := by subst hK; exact sl_tup
theorem op_in_seqK : OpR X (compareOp .In) (rIn K false) := by subst hK; exact op_in_seq
theorem op_notIn_seqK : OpR X (compareOp .NotIn) (rIn K true) := by subst hK; exact op_notIn_seq
theorem call_lenK : CallR X (.builtin "len") (rLenK K) := by subst hK; exact call_len_seq
theorem call_listK : CallR X (.type "list") (rListK K) := by subst hK; exact call_list_of
theorem call_tupleK : CallR X (.type "tuple") (rTupleK K) := by subst hK; exact call_tuple_of
theorem cr_sumK (hc : X.calm = true) : CallR X (.builtin "sum") (rSum K) := by subst hK; exact cr_sum hc
theorem cr_anyK (hc : X.calm = true) : CallR X (.builtin "any") (rAny K) := by subst hK; exact cr_any hc
theorem cr_allK (hc : X.calm = true) : CallR X (.builtin "all") (rAll K) := by subst hK; exact cr_all hc
theorem cr_sortedK : CallR X (.builtin "sorted") (rSorted K) := by subst hK; exact cr_sorted
theorem cr_sortedSK : CallR X (.builtin "sorted") (rSortedS K) := by subst hK; exact cr_sortedS
theorem call_isiK : CallR X (.builtin "isinstance") (rIsi K) := by subst hK; exact call_isi
theorem mt_joinK : MtR X "str.join" (rJoinK K) := by subst hK; exact mt_join
theorem pi_listK {tg l : Expr} {tl : TE} (hl : PE X l tl) : PI X tg l (iList K tl) := by subst hK; exact pi_list hl
theorem pi_tupK {tg l : Expr} {tl : TE} (hl : PE X l tl) : PI X tg l (iTup K tl) := by subst hK; exact pi_tup hl
theorem pe_revLK {e : Expr} {te : TE} {k : Nat} {p1 p2 p3 pos : Pos} (he : PE X e te) : PE X (.Subscript e (.Slice none none (some (.UnaryOp .USub (.Constant (.int 1) k p1) p2)) p3) pos) (tRevL K te) := by subst hK; exact pe_revL he
theorem pg_tupK {pos : Pos} {es : List Expr} {k : Nat} {t : TGs} {n : Nat} (hc : X.calm = true) (h : PGs X es t) (hn : (assignEach es X.env).length = n := by rfl) (hst : (assignEach es X.env).findIdx? (·.1) = none := by rfl) : PG X (.Tuple es k pos) (gTup K n t) := by subst hK; exact pg_tup hc h hn hst
theorem pe_bm0K {o : Expr} {to : TE} {name : Str} {ap cp : Pos} {T id : String} {r : V → List V → Hp → VK → Prop} (pa : PlainAttrs T) (sl : Slot T name id) (ty : typeOf (.builtin id) = pure (.type "method_descriptor")) (hm : MtR X id r) (ho : PE X o to) (h1 : attributeBase o name X.env (eval o X.env) = eval o X.env := by rfl) (h2 : (ap.endLine == cp.line) = true := by rfl) : PE X (.Call (.Attribute o name ap) [] [] cp) (tBM0 K T r to) := by subst hK; exact pe_bm0 pa sl ty hm ho h1 h2
theorem pe_bmK {o e : Expr} {es : List Expr} {to : TE} {t : TA} {name : Str} {ap cp : Pos} {T id : String} {r : V → List V → Hp → VK → Prop} (pa : PlainAttrs T) (sl : Slot T name id) (ty : typeOf (.builtin id) = pure (.type "method_descriptor")) (hm : MtR X id r) (ho : PE X o to) (ha : PA X (e :: es) t) (h1 : attributeBase o name X.env (eval o X.env) = eval o X.env := by rfl) (h2 : ((backTo cp (starEach (e :: es) X.env)).all (fun x => !x.1) && (backToKw cp (keywordEach [] X.env)).all (fun x => x.1.isSome) && decide ((e :: es).length + ([] : List Keyword).length + (if ([] : List Keyword).isEmpty then 0 else 1) < 30)) = true := by rfl) (h3 : (ap.endLine == cp.line) = true := by rfl) (h4 : starEach (e :: es) X.env = (false, eval e X.env) :: starEach es X.env := by rfl) (h5 : (backTo cp (starEach es X.env)).any (·.1) = false := by rfl) : PE X (.Call (.Attribute o name ap) (e :: es) [] cp) (tBM K T r to t) := by subst hK; exact pe_bm pa sl ty hm ho ha h1 h2 h3 h4 h5
end
/-- a comprehension's turn without a test -/
theorem lcyes {σ : L2.St} {H : Hp} {A B : Hp → Prop} (h : A H) : tYes σ H (fun b H3 => if b = true then A H3 else B H3) := by
  show (if true = true then A H else B H)
  rw [if_pos rfl]
  exact h
theorem vs_snoc (ys : List Nat) (c : Nat) : vs_ ys ++ [V.str (sg c)] = vs_ (ys ++ [c]) := by
  show _ = List.map _ (ys ++ [c])
  rw [List.map_append]
  rfl
theorem vs_erase : ∀ (ls : List Nat) (k : Nat), (vs_ ls).eraseIdx k = vs_ (ls.eraseIdx k)
  | [], _ => rfl
  | _ :: _, 0 => rfl
  | c :: r, k + 1 => by
    show V.str (sg c) :: (vs_ r).eraseIdx k = V.str (sg c) :: vs_ (r.eraseIdx k)
    rw [vs_erase r k]
end LH

namespace LH
open PySem PySem.Spec PyProof.Rows L2
/-! ### sets of texts: set(list), sorted(set) -/
/-- at a stands a set whose members are just the texts l, each once -/
def TSet (P : Program) (w : World) (a : Addr) (l : List Str) (h : Heap) : Prop :=
  l.Nodup ∧ ∃ D : Froz.SD, h.get? a = some (Froz.sObj "set" D) ∧ Froz.TxOk P w D l ∧ Ris D.2.2.place.toList ∧ (w.params.followText "set-order" = true ∨ D.2.2.led = true)
theorem TSet.at {P : Program} {w : World} {a : Addr} {l : List Str} {h h' : Heap} (T : TSet P w a l h) (k : ∀ o, h.get? a = some o → h'.get? a = some o) : TSet P w a l h' :=
  let ⟨n, D, e, r⟩ := T
  ⟨n, D, k _ e, r⟩
theorem tx_ris (x : Int) (v : Value) (D : Froz.SD) (r : Ris D.2.2.place.toList) : Ris (Froz.addTx x v D).2.2.place.toList ∧ (Froz.addTx x v D).2.2.led = D.2.2.led := by
  have r1 := layNew_ris D.2.2 D.1 x v r
  have l1 := layNew_led D.2.2 D.1 x v
  unfold Froz.addTx
  generalize layNew D.2.2 D.1 x v = Z at r1 l1 ⊢
  obtain ⟨es1, t1, wd, gv⟩ := Z
  dsimp only at r1 l1 ⊢
  have r2 : Ris (if t1.plain = true then { t1 with plain := false } else t1 : SetTable).place.toList ∧ (if t1.plain = true then { t1 with plain := false } else t1 : SetTable).led = D.2.2.led := by
    split
    · exact ⟨r1, l1⟩
    · exact ⟨r1, l1⟩
  generalize (if t1.plain = true then { t1 with plain := false } else t1 : SetTable) = t2 at r2 ⊢
  unfold Froz.tailTx
  split
  · exact ⟨relayAll_ris _ _ _, (relayAll_led _ _ _).trans r2.2⟩
  · exact r2
section
variable {P : Program} {w : World} {A : Around} {E : Value → Shared → Prop} {s : Shared}
/-- the add of a text that is in -/
theorem tx_old {a : Addr} {T : String} {D : Froz.SD} {l : List Str} {k : Str} {u : Tok} {Q : Bool → Shared → Prop} (ho : s.heap.get? a = some (Froz.sObj T D)) (F : Froz.TxOk P w D l) (hk : k ∈ l) (hb : l.length < scanBound) (h : Q false s) :
    wpAny (model P w) A (setAddHashed a (.str k u) (hashStr w k)) Q E s := by
  have hkey : (PySem.strKind P w).is k (.str k u) = true := Froz.is_str k u
  have hd : (Froz.sObj T D).data = .set D.1 D.2.1 D.2.2 := rfl
  have hsz : D.1.size < scanBound := by rw [F.sz]; exact hb
  obtain ⟨e, he, hm⟩ := (F.mem k).mp hk
  unfold setAddHashed setAddHashedIn
  refine wpAny_holding (wpAny_bind (wpAny_setState_of ho hd F.fit ?_))
  dsimp only
  rw [byScan_of (knd := PySem.strKind P w) rfl hsz F.el]
  simp only [↓reduceIte]
  unfold setAddByScan
  refine wpAny_bind (wpAny_bind (wpAny_rule (wpAny_bind (wpAny_setScan_of (knd := PySem.strKind P w) (k := k) hkey ho hd F.fit F.el ?_))))
  cases hf : List.findIdx? (fun e => (PySem.strKind P w).is k e.2) D.1.toList with
  | none =>
    have c := List.findIdx?_eq_none_iff.mp hf e he
    rw [hm] at c
    cases c
  | some j => exact wpAny_pure (wpAny_pure h)
/-- the members behind one more -/
def tAdd (l : List Str) (k : Str) : List Str := if k ∈ l then l else k :: l
theorem mem_tAdd {l : List Str} {k x : Str} : x ∈ tAdd l k ↔ x ∈ l ∨ x = k := by
  unfold tAdd
  split
  · rename_i h
    exact ⟨.inl, fun z => z.elim id fun e => e ▸ h⟩
  · rw [List.mem_cons]
    exact Or.comm
theorem tAdd_len (l : List Str) (k : Str) : (tAdd l k).length ≤ l.length + 1 := by
  unfold tAdd
  split
  · omega
  · exact Nat.le_refl _
theorem tx_add {a : Addr} {l : List Str} {k : Str} {u : Tok} {Q : Bool → Shared → Prop} (T : TSet P w a l s.heap) (hb : l.length + 1 < scanBound)
    (h : ∀ (b : Bool) (h' : Heap) (tk : Nat), s.toks ≤ tk → TSet P w a (tAdd l k) h' → (∀ c o, c ≠ a → s.heap.get? c = some o → h'.get? c = some o) → Q b { s with heap := h', toks := tk }) : wpAny (model P w) A (setAdd a (.str k u)) Q E s := by
  obtain ⟨nd, D, ho, F, r, hl⟩ := T
  unfold setAdd
  refine wpAny_holding (wpAny_bind ((PySem.strKind P w).pyHash (k := k) (Froz.is_str _ _) ?_))
  by_cases hk : k ∈ l
  · have e : tAdd l k = l := if_pos hk
    refine tx_old (s := { s with toks := s.toks + 1 }) (l := l) (D := D) ho F hk (by omega) ?_
    exact h false s.heap (s.toks + 1) (Nat.le_succ _) (by rw [e]; exact ⟨nd, D, ho, F, r, hl⟩) fun _ _ _ q => q
  · have e : tAdd l k = k :: l := if_neg hk
    refine Froz.add_x (s := { s with toks := s.toks + 1 }) (l := l) (D := D) ho F hk hb ?_
    obtain ⟨r1, l1⟩ := tx_ris (hashStr w k) (.str k u) D r
    refine h true _ (s.toks + 1) (Nat.le_succ _) ?_ fun c o hc q => Heap.get?_update_of_ne _ (Ne.symm hc) q
    rw [e]
    exact ⟨List.nodup_cons.mpr ⟨hk, nd⟩, _, Froz.get_upd _ ho rfl, Froz.add_ok u F, r1, by rw [l1]; exact hl⟩
end
/-- the members, when the texts were put in one by one -/
def tAll (xs : List Str) : List Str := xs.foldl tAdd []
theorem mem_foldl_tAdd {x : Str} : ∀ (xs l : List Str), x ∈ xs.foldl tAdd l ↔ x ∈ l ∨ x ∈ xs
  | [], l => by simp
  | k :: r, l => by
    rw [List.foldl_cons, mem_foldl_tAdd r, mem_tAdd, List.mem_cons]
    constructor
    · rintro ((q | q) | q)
      · exact .inl q
      · exact .inr (.inl q)
      · exact .inr (.inr q)
    · rintro (q | q | q)
      · exact .inl (.inl q)
      · exact .inl (.inr q)
      · exact .inr q
theorem mem_tAll {x : Str} {xs : List Str} : x ∈ tAll xs ↔ x ∈ xs := by
  unfold tAll
  rw [mem_foldl_tAdd]
  simp
theorem len_foldl_tAdd : ∀ (xs l : List Str), (xs.foldl tAdd l).length ≤ l.length + xs.length
  | [], l => by simp
  | k :: r, l => by
    have a := len_foldl_tAdd r (tAdd l k)
    have b := tAdd_len l k
    rw [List.foldl_cons, List.length_cons]
    omega
theorem tAll_len (xs : List Str) : (tAll xs).length ≤ xs.length := by
  have := len_foldl_tAdd xs []
  rw [List.length_nil, Nat.zero_add] at this
  exact this
theorem tAll_snoc (xs : List Str) (k : Str) : tAll (xs ++ [k]) = tAdd (tAll xs) k := by
  unfold tAll
  rw [List.foldl_append]
  rfl
section
variable {P : Program} {w : World} {A : Around} {R : Result → Shared → Prop} {I : Addr} {fp wr : List Addr} {G : Array GenState → Array GenState → Prop} {n : Nat} {Pv : Nat → Value → Prop} {St : Nat → Shared → Prop}
/-- the loop that puts what is walked into a set of texts -/
theorem tx_loop (W : WalksS P w A.in1 I fp wr G n Pv St) (S : Addr) (hS : S ∉ fp) (xs : List Str) (hn : xs.length = n) (hb : n + 1 < scanBound) (hv : ∀ i v, Pv i v → ∃ x t, xs[i]? = some x ∧ v = .str x t) :
    ∀ (k i : Nat) (s : Shared), n - i = k → i ≤ n → St i s → TSet P w S (tAll (xs.take i)) s.heap → (∀ s', Moved (S :: wr) G s s' → TSet P w S (tAll xs) s'.heap → R (.ok (.ret .none)) s') →
      codeAny (model P w) A (.builtin "set.update.loop" ⟨[.ref S, .ref I], []⟩) R s := by
  have hw : S ∉ wr := fun z => hS (W.sub _ z)
  have up : ∀ b ∈ wr, b ∈ S :: wr := fun b z => List.mem_cons_of_mem _ z
  intro k
  induction k with
  | zero =>
    intro i s hk hi st T hR
    obtain rfl : i = n := by omega
    rw [List.take_of_length_le (Nat.le_of_eq hn)] at T
    refine codeAny_builtin PyProof.Rows.F.entry_set_update_loop ?_
    rw [Around.under_plainId PyProof.Rows.F.plain_set_update_loop _]
    show wpAny _ A.in1 (pyNext (.ref I) >>= _) _ _ s
    refine wpAny_bind (W.done s _ _ st fun s' m => ?_)
    exact wpAny_pure (hR s' (m.mono up) (T.at fun o q => m.heap S o hw q))
  | succ k ih =>
    intro i s hk hi st T hR
    have lt : i < n := by omega
    refine codeAny_builtin PyProof.Rows.F.entry_set_update_loop ?_
    rw [Around.under_plainId PyProof.Rows.F.plain_set_update_loop _]
    show wpAny _ A.in1 (pyNext (.ref I) >>= _) _ _ s
    refine wpAny_bind (W.item i s _ _ lt st fun v s1 hP st1 m1 => ?_)
    obtain ⟨x, t, ex, rfl⟩ := hv i v hP
    have T1 : TSet P w S (tAll (xs.take i)) s1.heap := T.at fun o q => m1.heap S o hw q
    have room : (tAll (xs.take i)).length + 1 < scanBound := by
      have a := tAll_len (xs.take i)
      have b := List.length_take_le i xs
      omega
    show wpAny _ A.in1 (holding [Value.str x t] (setAdd S (.str x t)) >>= _) _ _ s1
    refine wpAny_bind (wpAny_holding (tx_add T1 room fun b h2 tk htk T2 k2 => ?_))
    have e : tAll (xs.take (i + 1)) = tAdd (tAll (xs.take i)) x := by
      rw [List.take_add_one, ex]
      exact tAll_snoc _ _
    rw [← e] at T2
    refine wpAny_pure ⟨plainId_quiet PyProof.Rows.F.plain_set_update_loop _, ih (i + 1) _ (by omega) lt (W.frame _ s1 _ _ st1 htk fun c hc o q => k2 c o (fun z => hS (z ▸ hc)) q) T2 fun s3 m3 T3 => ?_⟩
    exact hR s3 (Moved.trans W.gtrans ((m1.mono up).then_heap htk fun c o hc q => k2 c o (fun z => hc (z ▸ List.mem_cons_self)) q) m3) T3
end
end LH

namespace LH
open PySem PySem.Spec PyProof.Rows L2
/-- as many and the same members, of which one list has none twice -/
theorem perm_sub : ∀ (l m : List Str), l.Nodup → m.length = l.length → (∀ x ∈ l, x ∈ m) → m.Perm l
  | [], m, _, h, _ => by rw [List.length_eq_zero_iff.mp h]
  | x :: r, m, nd, h, hs => by
    obtain ⟨n1, n2⟩ := List.nodup_cons.mp nd
    have hx := hs x List.mem_cons_self
    refine (List.perm_cons_erase hx).trans (List.Perm.cons x (perm_sub r (m.erase x) n2 ?_ fun y hy => ?_))
    · rw [List.length_erase_of_mem hx, h]
      rfl
    · have hne : y ≠ x := fun e => n1 (e ▸ hy)
      exact (List.mem_erase_of_ne hne).mpr (hs y (List.mem_cons_of_mem _ hy))
theorem TSet.perm {l m : List Str} (nd : l.Nodup) (hl : m.length = l.length) (hm : ∀ x, x ∈ l ↔ x ∈ m) : m.Perm l := perm_sub l m nd hl fun x hx => (hm x).mp hx
/-- a new set -/
abbrev set0 (w : World) : Obj := { cls := .type "set", dict := none, data := .set #[] 0 (.fresh 0 0 (!w.params.followText "set-order")) }
section
variable {P : Program} {w : World} {A : Around} {E : Value → Shared → Prop} {s : Shared}
theorem set_made (a : Value) {Q₁ : Value → Shared → Prop} (h : Q₁ (.ref s.heap.objs.size) { s with heap := s.heap.push (set0 w) }) :
    codeAny (model P w) A (.call (.builtin "set.__new__") ⟨[.type "set", a], []⟩) (wants Q₁ E) s := by
  refine codeAny_of_tree ?_
  show wpAny _ A.in1 (checkBuiltinCall "set.__new__" ⟨[.type "set", a], []⟩ >>= fun _ => again (.builtin "set.__new__" ⟨[.type "set", a], []⟩)) _ _ s
  refine wpAny_bind (wpAny_of_eq (PySem.F.newCall_set_1 a) (wpAny_pure ⟨plainId_quiet PySem.F.plain_set_new _, codeAny_builtin PySem.F.entry_set_new ?_⟩))
  rw [Around.under_plainId PySem.F.plain_set_new _]
  unfold Builtin.«set.__new__» Builtin.Frozenset.newClass
  have sb := sub_set_self
  obtain ⟨hp, g, d, tk, os⟩ := s
  dsimp only
  wp_walk
  refine wpAny_askSetting (wpAny_pure ?_)
  dsimp only
  simp only [newObj]
  exact wpAny_bind (wpAny_alloc (wpAny_pure (wpAny_pure h)))
theorem tset_new {h h' : Heap} (e : h'.get? h.objs.size = some (set0 w)) : TSet P w h.objs.size [] h' :=
  ⟨List.nodup_nil, (#[], 0, .fresh 0 0 (!w.params.followText "set-order")), e, Froz.TxOk.nil (by rfl), List.Pairwise.nil, by
    show _ ∨ (!w.params.followText "set-order") = true
    cases w.params.followText "set-order"
    · exact .inr rfl
    · exact .inl rfl⟩
set_option maxHeartbeats 4000000 in
/-- set(xs) of a list of texts -/
theorem call_setT {l : Addr} {items : Array Value} {xs : List Str} {Q : Value → Shared → Prop} (hh : A.handled = none) (hl : s.heap.IsList l items) (hi : StrsAre items.toList xs) (hb : items.size + 1 < scanBound)
    (h : ∀ (h' : Heap) (tk : Nat), TSet P w s.heap.objs.size (tAll xs) h' → (∀ b o, b < s.heap.objs.size → s.heap.get? b = some o → h'.get? b = some o) → Q (.ref s.heap.objs.size) { s with heap := h', toks := tk }) :
    wpAny (model P w) A (call (.type "set") [.ref l]) Q E s := by
  obtain ⟨c, tl, hmro⟩ := PySem.F.called_set.mro
  have hmade := PySem.F.called_set.made
  have hsub := PySem.F.called_set.sub
  refine wpAny_call (codeAny_of_tree ?_)
  show wpAny _ _ (callAny (.type "set") _) _ _ _
  refine wpAny_pure ⟨Code.quiet_builtin _ (by decide +kernel), codeAny_builtin PySem.F.entry_type_call ?_⟩
  rw [Around.under_plain (weight_type_call_type "set" [.ref l] []) rfl]
  have h1 := PySem.F.called_set.notType
  have h2 := PySem.F.called_set.canCreate
  have hct := PySem.F.typeCall_set_1 (.ref l)
  repeat (any_goals (first | assumption | wp_step))
  refine codeAny_mono (set_made (.ref l) (E := E) (Q₁ := fun obj s₁ => obj = .ref s.heap.objs.size ∧ s₁ = { s with heap := s.heap.push (set0 w) }) ⟨rfl, rfl⟩) fun r s₁ hr => ?_
  cases r with
  | error e => exact hr
  | ok fl =>
    cases fl with
    | ret obj =>
      obtain ⟨rfl, rfl⟩ := hr
      have hS : (s.heap.push (set0 w)).get? s.heap.objs.size = some (set0 w) := Heap.get?_push_size _ rfl
      have hT : Shared.TypeIs { s with heap := s.heap.push (set0 w) } (.ref s.heap.objs.size) "set" := ⟨_, hS, rfl⟩
      have hli := PySem.F.called_set.init.lookup
      have hbi := PySem.F.called_set.init.bind (.ref s.heap.objs.size)
      repeat (any_goals (first | assumption | wp_step))
      refine codeAny_mono (codeAny_call_builtin (R := wants (fun r s₂ => r = .none ∧ ∃ h' tk, s₂ = { s with heap := h', toks := tk } ∧ TSet P w s.heap.objs.size (tAll xs) h' ∧
          (∀ b o, b < s.heap.objs.size → s.heap.get? b = some o → h'.get? b = some o)) E) PySem.F.called_set.init.plain PySem.F.entry_set_init (check_set_init_1 hT ?_)) fun r₂ s₂ hr₂ => ?_
      · obtain ⟨ol, hol, hcl, nl, hdl⟩ := hl
        obtain ⟨ocls, odict, odata, oslots⟩ := ol
        simp only at hcl hdl
        subst hcl
        subst hdl
        have hol' : (s.heap.push (set0 w)).get? l = some { cls := .type "list", dict := odict, data := .seq items nl, slots := oslots } := Heap.get?_push_of_some _ hol
        have hsls := PySem.F.sub_list_set
        have hslf := PySem.F.sub_list_frozenset
        have hne : (Value.type "list" == Value.type "dict") = false := by decide
        have hl1 : (s.heap.push (set0 w)).IsList l items := ⟨_, hol', rfl, nl, rfl⟩
        unfold Builtin.«set.__init__» noKeywords Builtin.Frozenset.updateFrom
        generalize hPI : pyIter = PI
        wp_walk
        subst hPI
        refine wpAny_pyIter_list hl1 (wpAny_bind (wpAny_runValue ?_))
        have lS : l < s.heap.objs.size := Heap.lt_size hol
        have eS : (s.heap.push (set0 w)).objs.size = s.heap.objs.size + 1 := Heap.size_push ..
        have neI : l ≠ (s.heap.push (set0 w)).objs.size := by
          rw [eS]
          exact Nat.ne_of_lt (Nat.lt_succ_of_lt lS)
        have out : s.heap.objs.size ∉ [(s.heap.push (set0 w)).objs.size, l] := fun z => by
          rcases List.mem_cons.mp z with z | z
          · rw [eS] at z
            exact absurd z (Nat.ne_of_lt (Nat.lt_succ_self _))
          · exact absurd (List.mem_singleton.mp z) (Nat.ne_of_gt lS)
        have hsz : xs.length = items.size := by rw [← StrsAre.len_eq hi, Array.length_toList]
        have hv : ∀ (i : Nat) (v : Value), items[i]? = some v → ∃ x t, xs[i]? = some x ∧ v = .str x t := fun i v q => by
          have hil : i < xs.length := by
            rw [hsz]
            exact (Array.getElem?_eq_some_iff.mp q).1
          obtain ⟨t, e⟩ := SS.strs_at hi i v (by rw [Array.getElem?_toList]; exact q)
          refine ⟨_, t, ?_, e⟩
          rw [List.getD_eq_getElem?_getD, List.getElem?_eq_getElem hil]
          rfl
        refine tx_loop ((Walks.list (by show A.in1.in1.in1.handled = none; simp [hh]) _ l neI items).toS) s.heap.objs.size out xs hsz hb hv items.size 0 _ (by omega) (Nat.zero_le _) ⟨⟨_, Heap.get?_push_size _ rfl, rfl, rfl⟩, hl1.push _⟩ ?tx1 ?tx2
        case tx1 => exact tset_new (h := s.heap) (Heap.get?_push_of_some _ hS)
        case tx2 =>
          intro s' m T
          obtain ⟨h', g', d', tk', os'⟩ := s'
          obtain rfl : g' = s.gens := m.gens
          obtain rfl : d' = s.drawn := m.drawn
          obtain rfl : os' = s.os := m.os
          refine wpAny_pure (wpAny_pure ⟨rfl, h', tk', rfl, T, fun b o q e => ?_⟩)
          refine m.heap b o (fun z => ?_) (Heap.get?_push_of_some _ (Heap.get?_push_of_some _ e))
          rcases List.mem_cons.mp z with z | z
          · exact absurd z (Nat.ne_of_lt q)
          · have z := List.mem_singleton.mp z
            rw [eS] at z
            exact absurd z (Nat.ne_of_lt (Nat.lt_succ_of_lt q))
      · cases r₂ with
        | error e => exact hr₂
        | ok fl₂ =>
          cases fl₂ with
          | ret r =>
            obtain ⟨rfl, h', tk, rfl, T, hk⟩ := hr₂
            repeat (any_goals (first | assumption | wp_step))
            exact h _ _ T hk
          | _ => exact hr₂.elim
    | _ => exact hr.elim
/-- sorted(found) of a set of texts -/
theorem call_sortedT {a : Addr} {l : List Str} {Q : Value → Shared → Prop} (T : TSet P w a l s.heap) (hh : A.handled = none) (hb : l.length < scanBound)
    (hQ : ∀ s' p (out : Array Value) (c : Nat) (ys : List Str), (∀ b o, s.heap.get? b = some o → s'.heap.get? b = some o) → s'.gens = s.gens → s'.os = s.os → s.heap.objs.size ≤ p →
      s'.heap.get? p = some (seqObj "list" out c) → StrsAre out.toList ys → ys.Perm l → sortedS ys = true → Q (.ref p) s') :
    wpAny (model P w) A (call (.builtin "sorted") [.ref a]) Q E s := by
  obtain ⟨nd, D, ho, F, r, hl⟩ := T
  have hsz : D.1.size < scanBound := by rw [F.sz]; exact hb
  refine Calls.call_function_entry kind_sorted plain_sorted entry_sorted (args_sorted1 _) ?_
  unfold Builtin.«sorted»
  refine wpAny_bind (m := checkCount "sorted" 1 1 _) (wpAny_pure ?_)
  refine wpAny_bind (collect_set (A := A.in1) (es := D.1) (ep := D.2.1) (t := D.2.2) hh ⟨_, ho, rfl, rfl⟩ F.fit hsz r hl fun s1 vs k1 hz g1 o1 pm => ?_)
  have all : ∀ v ∈ vs, ∃ x t, v = Value.str x t := fun v hv => by
    obtain ⟨e, he, rfl⟩ := List.mem_map.mp (pm.mem_iff.mp hv)
    obtain ⟨⟨k, hk, _⟩, _⟩ := F.el e he
    have hk : Value.isStrOf k e.2 = true := hk
    cases q : e.2 with
    | str x t => exact ⟨x, t, rfl⟩
    | _ =>
      rw [q] at hk
      cases hk
  have hS : StrsAre vs (vs.map strOf) := strsAre_map vs all
  have hvl : vs.length ≤ sizeLine := by
    rw [pm.length_eq, List.length_map, Array.length_toList]
    exact fits_of_scanBound hsz
  refine wpAny_bind (wpAny_newList ?_ hvl)
  have hoL : (s1.heap.push (seqObj "list" vs.toArray 0)).get? s1.heap.objs.size = some (seqObj "list" vs.toArray 0) := Heap.get?_push_size _ rfl
  refine wpAny_bind (wpAny_holding (wpAny_call_entry slot_list_sort ⟨_, hoL, rfl⟩ entry_list_sort (list_sort_treeKAny strKind_oneLt hoL hS.keysOf (fun v₁ v₂ rest e => keyKind_strs (by rw [← e]; exact hS)) hvl fun st' hp hs => ⟨_, rfl, ?_⟩) (args_list_sort _)))
  obtain ⟨ys, a1, a2, a3⟩ := sorted_out_str hS hp hs
  obtain ⟨c, hc⟩ := sortedHeap_at (vs := vs) (out := (arrOf st').map (·.2)) hoL
  refine wpAny_pure ⟨_, rfl, hQ _ s1.heap.objs.size _ c ys (fun b u e => ?_) g1 o1 hz hc a1 (a2.trans ?_) a3⟩
  · have q := k1 b u e
    have hlt := Heap.lt_size q
    refine (sortedHeap_old (Nat.ne_of_lt hlt) ?_).trans (Heap.get?_push_of_some _ q)
    exact Nat.lt_of_lt_of_eq (Nat.lt_succ_of_lt hlt) (size_push' ..).symm
  · -- the texts of the entries are just l
    have p1 : (vs.map strOf).Perm (D.1.toList.map fun e => strOf e.2) := by
      have q := pm.map strOf
      rw [List.map_map] at q
      exact q
    have key : ∀ e ∈ D.1.toList, ∀ k : Str, (PySem.strKind P w).is k e.2 = true ↔ strOf e.2 = k := fun e he k => by
      obtain ⟨⟨k0, hk0, _⟩, _⟩ := F.el e he
      have e0 : strOf e.2 = k0 := by
        have hk0 : Value.isStrOf k0 e.2 = true := hk0
        cases q : e.2 with
        | str x t =>
          rw [q] at hk0
          have : (x == k0) = true := by simpa [Value.isStrOf] using hk0
          exact eq_of_beq this
        | _ =>
          rw [q] at hk0
          cases hk0
      constructor
      · intro hk
        rw [e0]
        exact (PySem.strKind P w).inj e.2 k0 k hk0 hk
      · intro hk
        rw [← hk, e0]
        exact hk0
    refine p1.trans (TSet.perm nd ?_ fun x => ?_)
    · rw [List.length_map, Array.length_toList]
      exact F.sz
    · rw [F.mem x, List.mem_map]
      constructor
      · rintro ⟨e, he, q⟩
        exact ⟨e, he, (key e he x).mp q⟩
      · rintro ⟨e, he, q⟩
        exact ⟨e, he, (key e he x).mpr q⟩
end
end LH

namespace LH
open PySem PySem.Spec PyProof.Rows L2
/-- an expression that changes nothing, by its value -/
def tPure (t : TE) : TE := fun σ H Q => ∃ v, t σ H (fun x H' => x = v ∧ H' = H) ∧ Q v H
theorem pe_pure {X : Cx} {e : Expr} {t : TE} (h : PE X e t) : PE X e (tPure t) := by
  refine ⟨fun pins s σ H Q I q => ?_⟩
  obtain ⟨v, h1, h2⟩ := q
  refine thn (h.run pins s σ H _ I h1) fun u s1 ⟨x, H1, I1, r, e1, e2⟩ => ?_
  subst e1
  subst e2
  exact ⟨x, H1, I1, r, h2⟩
/-! ### a new pair at each turn -/
def Itp (n : Nat) (xs ys : Nat → Option V) : It := ⟨fun i _ => i < n, YPair xs ys, fun i _ => i = n⟩
theorem walk_Itp {n : Nat} {xs ys : Nat → Option V} : Walk (Itp n xs ys) n (fun _ => True) (YPair xs ys) := ⟨fun _ _ h _ => h, fun _ _ => rfl, fun _ _ _ _ _ _ y => y⟩
/-- a walk that hands out pairs of its own, as a turn -/
theorem turn_T {P : Program} {w : World} {K : PySem.W.Frag} {elts : List Expr} {kk n : Nat} {tpos : Pos} {xs ys : Nat → Option V} {it : Addr} {fp wr : List Addr} {Pt : Nat → Array Value → Prop} {St : Nat → Heap → Prop} {Mid : Nat → Addr → Heap → Prop}
    (W : ∀ A : Around, A.handled = none → WalksT P w A it fp wr n Pt St Mid) (hit : it ∈ fp) (ob : ∀ i h, St i h → ∀ b ∈ fp, ∃ o, h.get? b = some o ∧ ∀ v, o.data ≠ .cell v)
    (hp : ∀ i vals, Pt i vals → ∃ x y u v, vals = #[u, v] ∧ xs i = some x ∧ ys i = some y ∧ RelV x u ∧ RelV y v)
    (sf : ∀ (A : Around) (i : Nat) (s : Shared) (Q : Value → Shared → Prop) (E : Value → Shared → Prop), St i s.heap → Q (.ref it) s → wpAny (model P w) A (pyIter (.ref it)) Q E s) :
    Turn P w K (.Tuple elts kk tpos) (Itp n xs ys) fp it St where
  mem := hit
  obj := ob
  keep := fun i h h' st k => (W {} rfl).frame i h h' st k
  item := by
    intro X hP hw hK hc i pins s σ H E I hf st hg
    subst hP hw hK
    have W0 := W X.A (I.ok.hd hc)
    refine W0.item i s _ _ hg st fun T vals h1 tk hv hT tup mid k1 => ?_
    obtain ⟨x, y, u, v, rfl, ex, ey, rx, ry⟩ := hp i vals hv
    refine ⟨_, rfl, W0.go elts kk tpos i T _ _ _ mid fun h2 st2 k2 => ?_⟩
    have tup2 : h2.IsTuple T #[u, v] := tup.at fun o q => k2 T o (W0.apart i T h1 mid) q
    have I1 : Inv X pins σ (upd H T (.tup [x, y])) { s with heap := h2, toks := tk } :=
      I.turnedNew (ch := wr) (fun b o hb q => k2 b o hb (k1 b o hb q)) (fun b hb => hf b (W0.sub b hb)) hT ⟨by show 2 ≤ sizeLine; decide, [u, v], .cons rx (.cons ry .nil), tup2⟩
    refine ⟨.ref T, _, I1, rfl, ⟨T, x, y, rfl, I.hok.fresh hT, rfl, ex, ey⟩, st2, fun b hb => ?_⟩
    obtain ⟨o, q, _⟩ := ob i s.heap st b hb
    rw [upd_ne (Nat.ne_of_lt (Nat.lt_of_lt_of_le (Heap.lt_size q) hT))]
    exact (hf b hb).1
  done := by
    intro X hP hw hK hc i pins s σ H E I hf st hg
    subst hP hw hK
    have W0 := W X.A (I.ok.hd hc)
    obtain rfl : i = n := hg
    exact W0.done s _ _ st fun h1 tk k1 => ⟨rfl, I.turnedL (ch := wr) (fun b o hb q => k1 b o hb q) fun b hb => hf b (W0.sub b hb)⟩
  self := sf
/-! ### enumerate(text) -/
def signAt (z : Str) (i : Nat) : Option V := (z.cps[i]?).map fun c => .str ⟨#[c]⟩
def iEnumS (ta : TA) : TI := fun σ H R => ta σ H fun vs H1 => ∃ z : Str, vs = [.str z] ∧ R (Itp z.cps.size (fun i => some (.int (i : Nat))) (signAt z)) H1
theorem pi_enumS {X : Cx} {e : Expr} {ta : TA} {p pos tpos : Pos} {elts : List Expr} {kk : Nat} (hg : Gl X "enumerate") (hm : X.mg "enumerate" = none) (ha : PA X [e] ta) (hs : starEach [e] X.env = [(false, eval e X.env)] := by rfl) :
    PI X (.Tuple elts kk tpos) (.Call (.Name "enumerate" p) [e] [] pos) (iEnumS ta) := by
  refine ⟨fun pins s σ H R I h => ?_⟩
  refine Call_ (ld_blt I hg hm boot_enumerate (PyProof.Rows.callWith_type1 (thn (ha.run pos pins s σ H _ I h) fun us s1 ⟨vs, H1, I1, r1, q1⟩ => ?_) hs rfl))
  obtain ⟨z, ex, q⟩ := q1
  subst ex
  obtain ⟨u, rfl, rx⟩ := vals1 r1
  obtain ⟨t, rfl⟩ := rx
  refine call_enumerate_str fun h1 he hi hsz k1 => wpAny_pyIter_enum he ?_
  have I2 : Inv X pins σ H1 { s1 with heap := h1 } := I1.kept (t' := s1.toks) k1
  have hne : s1.heap.objs.size + 1 ≠ s1.heap.objs.size := Nat.succ_ne_self _
  refine ⟨s1.heap.objs.size + 1, [s1.heap.objs.size + 1, s1.heap.objs.size], _, _, H1, rfl, I2,
    turn_T (St := fun i h => (∃ old, IsEnum h (s1.heap.objs.size + 1) s1.heap.objs.size i old) ∧ h.IsStrIter s1.heap.objs.size (strIterType z) z t i)
      (fun A hA => WalksT.enumerateD (Draws.text (A := A.in1) hA s1.heap.objs.size z t) (s1.heap.objs.size + 1) hne (by simp) (by simp)) (by simp) (fun i h st b hb => ?_) (fun i vals hv => ?_) (fun A i s Q E st hQ => ?_), ⟨⟨.none, he⟩, hi⟩, fun b hb => ?_, q⟩
  · obtain ⟨⟨old, e1⟩, ⟨o, e2, c2, d2⟩⟩ := st
    have e' : b = s1.heap.objs.size + 1 ∨ b = s1.heap.objs.size := by simpa using hb
    rcases e' with y | y
    · rw [y]
      exact ⟨_, e1, fun v q => nomatch q⟩
    · rw [y]
      exact ⟨o, e2, fun v q => by rw [d2] at q; cases q⟩
  · obtain ⟨t', x, ⟨c, u, hc, rfl⟩, rfl⟩ := hv
    refine ⟨.int (i : Nat), .str ⟨#[c]⟩, _, _, rfl, rfl, ?_, ⟨_, rfl⟩, ⟨_, rfl⟩⟩
    unfold signAt
    rw [hc]
    rfl
  · obtain ⟨⟨old, e1⟩, _⟩ := st
    exact wpAny_pyIter_enum e1 hQ
  · have e' : b = s1.heap.objs.size + 1 ∨ b = s1.heap.objs.size := by simpa using hb
    have hle : s1.heap.objs.size ≤ b := by
      rcases e' with y | y
      · rw [y]
        exact Nat.le_add_right _ _
      · rw [y]
        exact Nat.le_refl _
    exact I1.fpOk hle (I1.hok.fresh hle)
/-! ### the set rules -/
/-- the set of the texts l at a -/
def SetT (P : Program) (w : World) (a : Addr) (l : List Str) : HO := .ext (TSet P w a l)
section
variable {X : Cx}
theorem setT_new {P : Program} {w : World} {H : Hp} {h : Heap} {a : Addr} {l : List Str} (T : TSet P w a l h) : ObjOk P w H h a (SetT P w a l) := by
  have ⟨_, D, e, _⟩ := T
  exact ⟨T, ⟨_, e⟩, fun h1 h2 p k => p.at k⟩
/-- set(xs), texts; the set stays nowhere but here -/
def rSetL (P : Program) (w : World) (K : PySem.W.Frag) : List V → Hp → VK → Prop := fun xs H Q => ∃ (a : Addr) (ys : List Str), xs = [.ref a] ∧ SqL K H a (ys.map V.str) ∧ ys.length ≤ 4000 ∧ ∀ p, H p = none → Q (.ref p) (upd H p (SetT P w p (tAll ys)))
theorem cr_setL (hc : X.calm = true) : CallR X (.type "set") (rSetL X.prog X.w X.K) := by
  intro pins s σ H xs us Q I r h
  obtain ⟨a, ys, rfl, hs, hl, q⟩ := h
  obtain ⟨its, rv, pl, _⟩ := I.list hs
  rw [Vals.ref1 r]
  have hlen := rv.length
  rw [List.length_map] at hlen
  refine call_setT (I.ok.hd hc) pl.isList (by simpa using rv.strs) (by rw [List.size_toArray, ← hlen]; unfold scanBound; omega) fun h1 tk T k1 => ?_
  refine ⟨.ref s.heap.objs.size, _, I.laid (t' := tk) (fun b o e => k1 b o (Heap.lt_size e) e) (Nat.le_refl _) (setT_new T), rfl, q _ (I.hok.fresh (Nat.le_refl _))⟩
/-- sorted(found) -/
def rSortT (P : Program) (w : World) : List V → Hp → VK → Prop := fun xs H Q => ∃ (a : Addr) (l : List Str), xs = [.ref a] ∧ H a = some (SetT P w a l) ∧ l.length ≤ 4000 ∧ ∀ ys p, ys.Perm l → sortedS ys = true → H p = none → Q (.ref p) (upd H p (.lst (ys.map V.str)))
theorem cr_sortT (hc : X.calm = true) : CallR X (.builtin "sorted") (rSortT X.prog X.w) := by
  intro pins s σ H vs us Q I r h
  obtain ⟨a, l, rfl, ha, hl, q⟩ := h
  have T : TSet X.prog X.w a l s.heap := (I.hok a _ ha).1
  rw [Vals.ref1 r]
  refine call_sortedT T (I.ok.hd hc) (by unfold scanBound; omega) fun s' p out c ys k g o hp hg hi pm hs => ?_
  have hlen : (ys.map V.str).length ≤ sizeLine := by
    rw [List.length_map, pm.length_eq]
    exact Nat.le_trans hl (by decide)
  have hn : H p = none := I.hok.fresh hp
  have J : Inv X pins σ (upd H p (.lst (ys.map V.str))) { s with heap := s'.heap, gens := s'.gens, drawn := s'.drawn, toks := s'.toks } :=
    I.call (ch := []) (Un.laid k hp hn) (I.hok.laid k hp ⟨hlen, out.toList, c, vals_of_strs hi, hg⟩) (by rw [g]; exact I.bare) (fun _ z => nomatch z)
  have e : s' = { s with heap := s'.heap, gens := s'.gens, drawn := s'.drawn, toks := s'.toks } := by
    cases s'
    cases s
    cases o
    rfl
  rw [e]
  exact ⟨.ref p, _, J, rfl, q ys p pm hs hn⟩
end
section
variable {X : Cx} (P : Program) (w : World) (K : PySem.W.Frag) (hP : X.prog = P) (hw : X.w = w) (hK : X.K = K) (hc : X.calm = true)
include hP hw hc
theorem cr_sortTK : CallR X (.builtin "sorted") (rSortT P w) := by subst hP hw; exact cr_sortT hc
include hK
theorem cr_setLK : CallR X (.type "set") (rSetL P w K) := by subst hP hw hK; exact cr_setL hc
end
/-! ### what is sorted and has no text twice is told by its members -/
theorem sortedS_pw : ∀ {l : List Str}, sortedS l = true → l.Pairwise fun a b => ltCps b.cps.toList a.cps.toList = false := by
  have tr : ∀ a b c : List Nat, ltCps b a = false → ltCps c b = false → ltCps c a = false := fun a b c h1 h2 => by
    rw [ltCps_eq] at h1 h2 ⊢
    have h1 := of_decide_eq_false h1
    have h2 := of_decide_eq_false h2
    exact decide_eq_false fun h => h1 (Std.lt_of_le_of_lt (Std.not_lt.mp h2) h)
  have go : ∀ (l : List Str) (p : Str), risingS p l = true → (p :: l).Pairwise fun a b => ltCps b.cps.toList a.cps.toList = false := by
    intro l
    induction l with
    | nil => intro p _; exact List.pairwise_singleton _ _
    | cons x r ih =>
      intro p h
      have h : (!ltCps x.cps.toList p.cps.toList && risingS x r) = true := h
      rw [Bool.and_eq_true] at h
      have i := ih x h.2
      have h1 : ltCps x.cps.toList p.cps.toList = false := by simpa using h.1
      refine List.Pairwise.cons (fun y hy => ?_) i
      rcases List.mem_cons.mp hy with rfl | hy
      · exact h1
      · exact tr _ _ _ h1 (List.rel_of_pairwise_cons i hy)
  intro l h
  cases l with
  | nil => exact List.Pairwise.nil
  | cons x r => exact go r x h
theorem sorted_one {l m : List Str} (h1 : sortedS l = true) (h2 : sortedS m = true) (p : l.Perm m) : l = m := by
  refine List.Perm.eq_of_pairwise (le := fun a b => ltCps b.cps.toList a.cps.toList = false) (fun a b _ _ q1 q2 => ?_) (sortedS_pw h1) (sortedS_pw h2) p
  rw [ltCps_eq] at q1 q2
  have q1 := of_decide_eq_false q1
  have q2 := of_decide_eq_false q2
  have e : a.cps.toList = b.cps.toList := Std.le_antisymm (Std.not_lt.mp q1) (Std.not_lt.mp q2)
  obtain ⟨⟨a⟩⟩ := a
  obtain ⟨⟨b⟩⟩ := b
  have e : a = b := e
  rw [e]
end LH

namespace LU
open PySem PySem.Spec PyProof.Rows
/-! ### dicts whose keys are None, numbers, texts and tuples of these, nested -/
abbrev Row3 := NestedKey × Value × Value
def ent (w : World) (x : Row3) : DictEntry := ⟨x.1.hash w, x.2.1, x.2.2⟩
structure UD (w : World) (h : Heap) (d : Addr) (xs : List Row3) (o : Obj) (es : Array DictEntry) (ep : Nat) : Prop where
  get : h.get? d = some o
  exact_ : o.ExactDict
  data : o.data = .dict es ep
  ents : es.toList = xs.map (ent w)
  keys : ∀ x ∈ xs, NestedIs h x.1 x.2.1 ∧ x.1.depth ≤ 8
  nd : (xs.map (·.1)).Nodup
def pos (xs : List Row3) (k : NestedKey) : Option Nat := xs.findIdx? fun x => decide (x.1 = k)
theorem pos_some {xs : List Row3} (nd : (xs.map (·.1)).Nodup) {i : Nat} {x : Row3} (h : xs[i]? = some x) : pos xs x.1 = some i := by
  unfold pos
  rw [List.findIdx?_eq_some_iff_getElem]
  obtain ⟨hi, e⟩ := List.getElem?_eq_some_iff.mp h
  refine ⟨hi, by rw [e]; exact decide_eq_true rfl, fun j hj => ?_⟩
  have hjl : j < xs.length := Nat.lt_trans hj hi
  intro q
  have q : xs[j].1 = x.1 := of_decide_eq_true q
  have a1 : (xs.map (·.1))[j]? = some x.1 := by rw [List.getElem?_map, List.getElem?_eq_getElem hjl, Option.map_some, q]
  have a2 : (xs.map (·.1))[i]? = some x.1 := by rw [List.getElem?_map, h]; rfl
  have := (List.getElem?_inj (by rw [List.length_map]; exact hjl) nd).mp (a1.trans a2.symm)
  omega
theorem pos_none {xs : List Row3} {k : NestedKey} (h : ∀ x ∈ xs, ¬ x.1 = k) : pos xs k = none := List.findIdx?_eq_none_iff.mpr fun x hx => decide_eq_false (h x hx)
section
variable {prog : Program} {w : World} {A : Around} {E : Value → Shared → Prop} {s : Shared} {d : Addr} {xs : List Row3} {o : Obj} {es : Array DictEntry} {ep : Nat} {k : NestedKey} {key : Value}
theorem UD.at_ {h : Heap} (u : UD w h d xs o es ep) (j : Nat) : es[j]? = (xs[j]?).map (ent w) := by
  rw [← Array.getElem?_toList, u.ents, List.getElem?_map]
theorem UD.size {h : Heap} (u : UD w h d xs o es ep) : es.size = xs.length := by
  rw [← Array.length_toList, u.ents, List.length_map]
/-- where a key of this hash may stand -/
abbrev plc (es : Array DictEntry) (h : Int) : List Nat := placesWithHash es.size (fun i => es[i]?.map (·.hash)) h
theorem mem_plc {h : Heap} (u : UD w h d xs o es ep) {j : Nat} {x : Row3} (e : xs[j]? = some x) : j ∈ plc es (x.1.hash w) := by
  refine List.mem_filter.mpr ⟨List.mem_range.mpr ?_, ?_⟩
  · rw [u.size]
    exact (List.getElem?_eq_some_iff.mp e).1
  · show ((es[j]?.map (·.hash)) == some (x.1.hash w)) = true
    rw [u.at_, e]
    exact beq_self_eq_true _
theorem nd_plc (es : Array DictEntry) (h : Int) : (plc es h).Nodup := List.nodup_range.filter _
/-- the way through the places, all by value -/
theorem walk_plain {Q : Option Nat → Shared → Prop} (hu : A.units + 8 < cLine) (u : UD w s.heap d xs o es ep) (hk : NestedIs s.heap k key) (hd8 : k.depth ≤ 8) (h : Q (pos xs k) s) :
    wpAny (model prog w) A (dictWalkPlain d key (k.hash w) es (plc es (k.hash w))) Q E s := by
  unfold dictWalkPlain
  refine wpAny_bind ?_
  refine wpAny_forIn_list _ (fun rest b s' => s' = s ∧ b = (none, ()) ∧ ∀ (j : Nat) (x : Row3), xs[j]? = some x → x.1 = k → j ∈ rest) _ ?_ ?_ _ _ ⟨rfl, rfl, fun j x e ek => by rw [← ek]; exact mem_plc u e⟩
  · rintro i rest b s' ⟨rfl, rfl, hr⟩
    rw [u.at_]
    cases hx : xs[i]? with
    | none =>
      refine wpAny_pure ⟨rfl, rfl, fun j x e ek => ?_⟩
      rcases List.mem_cons.mp (hr j x e ek) with rfl | q
      · rw [hx] at e
        cases e
      · exact q
    | some y =>
      have on : ¬ y.1 = k → ∀ (j : Nat) (x : Row3), xs[j]? = some x → x.1 = k → j ∈ rest := fun ne j x e ek => by
        rcases List.mem_cons.mp (hr j x e ek) with rfl | q
        · rw [hx] at e
          cases e
          exact absurd ek ne
        · exact q
      dsimp only [Option.map_some]
      by_cases hh : ((ent w y).hash == k.hash w) = true
      · rw [if_pos hh]
        have hy := u.keys y (List.mem_of_getElem? hx)
        refine wpAny_bind (wpAny_dictEpoch u.get u.data (wpAny_bind (eqAt_key y.1 k A s' _ _ hy.1 hk (by omega) _ _ _ _ (wpAny_bind (wpAny_dictEpoch u.get u.data ?_)))))
        show wpAny _ _ (if (ep != ep) = true then _ else _) _ E _
        rw [if_neg (by simp), ← NestedKey.decide_eq]
        by_cases e : y.1 = k
        · rw [decide_eq_true e]
          subst e
          rw [pos_some u.nd hx] at h
          exact wpAny_bind (wpAny_rule (wpAny_pure (wpAny_pure h)))
        · rw [decide_eq_false e]
          exact wpAny_bind (wpAny_rule (wpAny_pure ⟨rfl, rfl, on e⟩))
      · rw [if_neg hh]
        refine wpAny_pure ⟨rfl, rfl, on fun e => hh ?_⟩
        show (y.1.hash w == k.hash w) = true
        rw [e]
        exact beq_self_eq_true _
  · rintro b s' ⟨rfl, rfl, hr⟩
    rw [pos_none fun x hx e => ?_] at h
    · exact wpAny_pure h
    · obtain ⟨j, hj⟩ := List.mem_iff_getElem?.mp hx
      cases hr j x hj e
end
end LU
namespace LU
open PySem PySem.Spec PyProof.Rows
section
variable {prog : Program} {w : World} {A : Around} {E : Value → Shared → Prop} {s : Shared} {d : Addr} {xs : List Row3} {o : Obj} {es : Array DictEntry} {ep : Nat} {k : NestedKey} {key : Value}
theorem fi_congr {p q : Row3 → Bool} : ∀ {xs : List Row3}, (∀ x ∈ xs, p x = q x) → xs.findIdx? p = xs.findIdx? q
  | [], _ => rfl
  | x :: r, h => by
    rw [List.findIdx?_cons, List.findIdx?_cons, h x List.mem_cons_self, fi_congr fun y hy => h y (List.mem_cons_of_mem _ hy)]
theorem found_val {x : Str} {t : Tok} {Q : Option Nat → Shared → Prop} (hu : A.units + 8 < cLine) (u : UD w s.heap d xs o es ep) (hs : ∀ y ∈ xs, isExactStrKey y.2.1 = true) (h : Q (pos xs (.text x)) s) :
    wpAny (model prog w) A (foundByValue d (.str x t) es x) Q E s := by
  have same : ∀ y ∈ xs, y.2.1.isStr x = decide (y.1 = .text x) := fun y hy => by
    have a := hs y hy
    have b := (u.keys y hy).1
    obtain ⟨k', v', z⟩ := y
    cases b with
    | text x' t' =>
      by_cases e : x' = x
      · subst e
        simp [Value.isStr]
      · have : ¬ NestedKey.text x' = NestedKey.text x := fun q => e (by injection q)
        rw [decide_eq_false this]
        simp [Value.isStr, e]
    | none => simp [isExactStrKey] at a
    | bool _ => simp [isExactStrKey] at a
    | int _ _ => simp [isExactStrKey] at a
    | tup _ _ _ _ => simp [isExactStrKey] at a
  have fi : (es.findIdx? fun e => e.key.isStr x) = pos xs (.text x) := by
    have : es.findIdx? (fun e => e.key.isStr x) = es.toList.findIdx? fun e => e.key.isStr x := by
      obtain ⟨l⟩ := es
      simp
    rw [this, u.ents, List.findIdx?_map]
    unfold pos
    exact fi_congr same
  unfold foundByValue
  rw [fi]
  cases hp : pos xs (.text x) with
  | none =>
    rw [hp] at h
    exact wpAny_pure h
  | some i =>
    rw [hp] at h
    obtain ⟨hi, e, _⟩ := List.findIdx?_eq_some_iff_getElem.mp hp
    have e : xs[i].1 = .text x := of_decide_eq_true e
    have hx : xs[i]? = some xs[i] := List.getElem?_eq_getElem hi
    dsimp only
    rw [u.at_, hx]
    have hy := u.keys _ (List.mem_of_getElem? hx)
    refine wpAny_bind (wpAny_dictEpoch u.get u.data (wpAny_bind (eqAt_key _ (.text x) A s _ _ hy.1 (.text x t) (by show A.units + min _ 0 < cLine; omega) _ _ _ _ (wpAny_bind (wpAny_dictEpoch u.get u.data ?_)))))
    show wpAny _ _ (if (ep != ep) = true then _ else _) _ E _
    rw [if_neg (by simp), ← NestedKey.decide_eq, decide_eq_true e]
    exact wpAny_bind (wpAny_rule (wpAny_pure h))
theorem may_tell {stored : List Value} {Q : Bool → Shared → Prop} (hk : NestedIs s.heap k key) (hd8 : k.depth ≤ 8) (hst : ∀ v ∈ stored, ∃ k', NestedIs s.heap k' v ∧ k'.depth ≤ 8) (h : Q false s) :
    wpAny (model prog w) A (tableMayTell key stored) Q E s := by
  unfold tableMayTell
  split
  · exact wpAny_pure h
  · refine wpAny_bind (quiet_key k key 8 s hk hd8 _ _ _ ?_)
    rw [Bool.not_true, if_neg Bool.false_ne_true]
    refine wpAny_bind ?_
    refine wpAny_forIn_list _ (fun rest b s' => s' = s ∧ b = (none, ()) ∧ ∀ v ∈ rest, v ∈ stored) _ ?_ ?_ _ _ ⟨rfl, rfl, fun _ q => q⟩
    · rintro v rest b s' ⟨rfl, rfl, hr⟩
      obtain ⟨k', a1, a2⟩ := hst v (hr v List.mem_cons_self)
      refine wpAny_bind (quiet_key k' v 8 s' a1 a2 _ _ _ ?_)
      rw [Bool.not_true, if_neg Bool.false_ne_true]
      exact wpAny_pure ⟨rfl, rfl, fun u q => hr u (List.mem_cons_of_mem _ q)⟩
    · rintro b s' ⟨rfl, rfl, _⟩
      exact wpAny_pure h
/-- a key is looked for -/
theorem find_u {Q : Option Nat → Shared → Prop} (hu : A.units + 8 < cLine) (u : UD w s.heap d xs o es ep) (hk : NestedIs s.heap k key) (hd8 : k.depth ≤ 8) (h : Q (pos xs k) s) :
    wpAny (model prog w) A (dictFind d key (k.hash w)) Q E s := by
  have row : ∀ e ∈ es, ∃ x ∈ xs, e = ent w x := fun e he => by
    have := Array.mem_toList_iff.mpr he
    rw [u.ents] at this
    obtain ⟨x, hx, q⟩ := List.mem_map.mp this
    exact ⟨x, hx, q.symm⟩
  have st : ∀ v ∈ (plc es (k.hash w)).filterMap (fun i => es[i]?.map (·.key)), ∃ k', NestedIs s.heap k' v ∧ k'.depth ≤ 8 := fun v hv => by
    obtain ⟨i, _, hi⟩ := List.mem_filterMap.mp hv
    rw [u.at_] at hi
    cases hx : xs[i]? with
    | none =>
      rw [hx] at hi
      cases hi
    | some x =>
      rw [hx] at hi
      have := u.keys x (List.mem_of_getElem? hx)
      cases hi
      exact ⟨x.1, this⟩
  have noch : ¬ (es.any fun e => e.key == key && e.hash != k.hash w) = true := fun z => by
    obtain ⟨e, he, q⟩ := Array.any_eq_true'.mp z
    obtain ⟨x, hx, rfl⟩ := row e he
    rw [Bool.and_eq_true, beq_iff_eq, bne_iff_ne] at q
    have a := (u.keys x hx).1
    rw [show x.2.1 = key from q.1] at a
    exact q.2 (congrArg (fun z => NestedKey.hash w z) (NestedIs.inj _ _ _ a hk))
  unfold dictFind
  with_reducible refine wpAny_holding ?_
  refine wpAny_bind (wpAny_dictEntries u.get u.data ?_)
  dsimp only
  have val : (key :: (plc es (k.hash w)).filterMap fun i => es[i]?.map (·.key)).all carriedByValue = true → wpAny (model prog w) A (dictWalkPlain d key (k.hash w) es (plc es (k.hash w))) Q E s := fun _ => walk_plain hu u hk hd8 h
  by_cases ex : ∃ x t, key = .str x t ∧ (es.all fun e => isExactStrKey e.key) = true
  · obtain ⟨x, t, rfl, a⟩ := ex
    dsimp only
    rw [if_pos a]
    cases hk
    refine found_val hu u (fun y hy => ?_) h
    rw [← Array.all_toList, List.all_eq_true] at a
    exact a (ent w y) (by rw [u.ents]; exact List.mem_map.mpr ⟨y, hy, rfl⟩)
  have step1 : ∀ (F : Str → Sem (Option Nat)) (G : Sem (Option Nat)), wpAny (model prog w) A G Q E s → wpAny (model prog w) A (match key with | .str x _ => if (es.all fun e => isExactStrKey e.key) = true then F x else G | _ => G) Q E s := fun F G q => by
    split
    · rw [if_neg fun a => ex ⟨_, _, rfl, a⟩]
      exact q
    · exact q
  refine step1 (fun x => foundByValue d key es x) _ ?_
  by_cases hall : (key :: (plc es (k.hash w)).filterMap fun i => es[i]?.map (·.key)).all carriedByValue = true
  · rw [if_pos hall]
    exact val hall
  rw [if_neg hall]
  have step2 : ∀ (F G : Sem (Option Nat)), wpAny (model prog w) A G Q E s → wpAny (model prog w) A (match key with | .ref _ => if (es.any fun e => e.key == key && e.hash != k.hash w) = true then F else G | _ => G) Q E s := fun F G q => by
    split
    · rw [if_neg noch]
      exact q
    · exact q
  refine step2 _ _ ?_
  by_cases one : (((plc es (k.hash w)).filterMap fun i => es[i]?.map (·.key)) == [key]) = true <;>
  (first | rw [if_pos one] | rw [if_neg one]) <;> (first | refine wpAny_bind (wpAny_pure ?_) | refine wpAny_bind (may_tell hk hd8 st ?_)) <;> (
    rw [if_neg (by simp)]
    refine wpAny_bind ?_
    refine wpAny_forIn_list _ (fun rest b s' => s' = s ∧ rest.Nodup ∧ ∃ hit, b = (none, hit) ∧ ((hit = none ∧ ∀ (j : Nat) (x : Row3), xs[j]? = some x → x.1 = k → j ∈ rest) ∨ ∃ j x, hit = some j ∧ xs[j]? = some x ∧ x.1 = k ∧ j ∉ rest)) _ ?_ ?_ _ _ ⟨rfl, nd_plc _ _, none, rfl, .inl ⟨rfl, fun j x e ek => by rw [← ek]; exact mem_plc u e⟩⟩
    · rintro i rest b s' ⟨rfl, ndr, hit, rfl, hr⟩
      obtain ⟨ni, ndr⟩ := List.nodup_cons.mp ndr
      have on : (∀ y, xs[i]? = some y → ¬ y.1 = k) → ((hit = none ∧ ∀ (j : Nat) (x : Row3), xs[j]? = some x → x.1 = k → j ∈ rest) ∨ ∃ j x, hit = some j ∧ xs[j]? = some x ∧ x.1 = k ∧ j ∉ rest) := fun ne => by
        rcases hr with ⟨a, b⟩ | ⟨j, x, a, b, c, e⟩
        · refine .inl ⟨a, fun j x e ek => ?_⟩
          rcases List.mem_cons.mp (b j x e ek) with rfl | q
          · exact absurd ek (ne x e)
          · exact q
        · exact .inr ⟨j, x, a, b, c, fun z => e (List.mem_cons_of_mem _ z)⟩
      rw [u.at_]
      cases hx : xs[i]? with
      | none => exact wpAny_pure ⟨rfl, ndr, hit, rfl, on fun y e => by rw [hx] at e; cases e⟩
      | some y =>
        dsimp only [Option.map_some]
        by_cases hh : ((ent w y).hash == k.hash w) = true
        · rw [if_pos hh]
          have hy := u.keys y (List.mem_of_getElem? hx)
          refine wpAny_bind (wpAny_dictEpoch u.get u.data (wpAny_bind (eqAt_key y.1 k A s' _ _ hy.1 hk (by omega) _ _ _ _ (wpAny_bind (wpAny_dictEpoch u.get u.data ?_)))))
          show wpAny _ _ (if (ep != ep) = true then _ else _) _ E _
          rw [if_neg (by simp), ← NestedKey.decide_eq]
          by_cases e : y.1 = k
          · rw [decide_eq_true e]
            subst e
            have h0 : hit = none := by
              rcases hr with ⟨a, _⟩ | ⟨j, x, a, b, c, e⟩
              · exact a
              · exfalso
                have e1 := pos_some u.nd b
                have e2 := pos_some u.nd hx
                rw [c, e2] at e1
                cases e1
                exact e List.mem_cons_self
            subst h0
            rw [if_pos rfl, if_neg (by simp)]
            refine wpAny_bind (wpAny_rule ?_)
            split
            · rw [pos_some u.nd hx] at h
              exact wpAny_pure (wpAny_pure h)
            · exact wpAny_pure ⟨rfl, ndr, some i, rfl, .inr ⟨i, y, rfl, hx, rfl, ni⟩⟩
          · rw [decide_eq_false e, if_neg Bool.false_ne_true]
            refine wpAny_bind (wpAny_rule ?_)
            rw [if_neg (by simp)]
            exact wpAny_pure ⟨rfl, ndr, hit, rfl, on fun y' e' => by rw [hx] at e'; cases e'; exact e⟩
        · rw [if_neg hh]
          refine wpAny_pure ⟨rfl, ndr, hit, rfl, on fun y' e' ek => hh ?_⟩
          rw [hx] at e'
          cases e'
          show (y.1.hash w == k.hash w) = true
          rw [ek]
          exact beq_self_eq_true _
    · rintro b s' ⟨rfl, _, hit, rfl, hr⟩
      rcases hr with ⟨rfl, b⟩ | ⟨j, x, rfl, b, c, _⟩
      · rw [pos_none fun x hx e => ?_] at h
        · exact wpAny_pure h
        · obtain ⟨j, hj⟩ := List.mem_iff_getElem?.mp hx
          cases b j x hj e
      · subst c
        rw [pos_some u.nd b] at h
        exact wpAny_pure h)
end
end LU
namespace LU
open PySem PySem.Spec PyProof.Rows
def valU (xs : List Row3) (k : NestedKey) : Option Value := (pos xs k).bind fun i => (xs[i]?).map (·.2.2)
def setU (xs : List Row3) (k : NestedKey) (key v : Value) : List Row3 :=
  match pos xs k with
  | some i => xs.modify i fun x => (x.1, x.2.1, v)
  | none => xs ++ [(k, key, v)]
theorem pos_is {xs : List Row3} {k : NestedKey} {i : Nat} (h : pos xs k = some i) : ∃ x, xs[i]? = some x ∧ x.1 = k := by
  obtain ⟨hi, e, _⟩ := List.findIdx?_eq_some_iff_getElem.mp h
  exact ⟨_, List.getElem?_eq_getElem hi, of_decide_eq_true e⟩
section
variable {prog : Program} {w : World} {A : Around} {E : Value → Shared → Prop} {s : Shared} {d : Addr} {xs : List Row3} {o : Obj} {es : Array DictEntry} {ep : Nat} {k : NestedKey} {key : Value}
theorem keys_on {h h' : Heap} {x : NestedKey × Value} (u : UD w h d xs o es ep) (hs : Heap.SameBut d h h') (q : NestedIs h x.1 x.2 ∧ x.1.depth ≤ 8) : NestedIs h' x.1 x.2 ∧ x.1.depth ≤ 8 := by
  refine ⟨NestedIs.at (fun b ob vs n hb hc => ?_) _ _ q.1, q.2⟩
  by_cases e : b = d
  · subst e
    rw [u.get] at hb
    cases hb
    rw [u.data] at hc
    cases hc
  · exact (hs.2 b e).trans hb
theorem get_u {Q : Option Value → Shared → Prop} (hu : A.units + 8 < cLine) (u : UD w s.heap d xs o es ep) (hk : NestedIs s.heap k key) (hd8 : k.depth ≤ 8) (h : Q (valU xs k) { s with toks := s.toks + k.draws }) : wpAny (model prog w) A (dictGet d key) Q E s := by
  unfold dictGet
  with_reducible refine wpAny_holding ?_
  refine wpAny_bind (pyHash_key k key A s _ hk (by omega) (wpAny_bind (find_u (s := { s with toks := s.toks + k.draws }) hu u hk hd8 ?_)))
  unfold valU at h
  cases hp : pos xs k with
  | none =>
    rw [hp] at h
    exact wpAny_pure h
  | some i =>
    rw [hp] at h
    obtain ⟨x, hx, _⟩ := pos_is hp
    refine wpAny_bind (wpAny_dictEntries (s := { s with toks := s.toks + k.draws }) u.get u.data ?_)
    rw [u.at_, hx]
    rw [Option.bind_some, hx] at h
    exact wpAny_pure h
theorem UD.type {s : Shared} (u : UD w s.heap d xs o es ep) : s.TypeIs (.ref d) "dict" := ⟨o, u.get, u.exact_.1⟩
theorem set_u {v : Value} {Q : Unit → Shared → Prop} (hu : A.units + 8 < cLine) (u : UD w s.heap d xs o es ep) (hk : NestedIs s.heap k key) (hd8 : k.depth ≤ 8) (hsz : xs.length ≤ sizeLine)
    (h : ∀ h' o' es' ep', UD w h' d (setU xs k key v) o' es' ep' → Heap.SameBut d s.heap h' → Q () { s with heap := h', toks := s.toks + k.draws }) : wpAny (model prog w) A (dictSet d key v) Q E s := by
  unfold dictSet
  with_reducible refine wpAny_holding ?_
  refine wpAny_bind (pyHash_key k key A s _ hk (by omega) ?_)
  unfold dictSetHashed
  with_reducible refine wpAny_holding ?_
  refine wpAny_bind (find_u (s := { s with toks := s.toks + k.draws }) hu u hk hd8 ?_)
  cases hp : pos xs k with
  | none =>
    refine wpAny_bind (wpAny_rule (wpAny_updateDictKeys (hz := by have e := u.size; omega) (s := { s with toks := s.toks + k.draws }) u.get u.data (h _ _ _ (ep + 1) ⟨Heap.get?_update_self _ u.get (Obj.isFreed_of_dict (Obj.data_mapDictKeys u.data _)), u.exact_.mapDictKeys _, Obj.data_mapDictKeys u.data _, ?_, ?_, ?_⟩ (Heap.SameBut.update ..))))
    all_goals unfold setU
    all_goals rw [hp]
    · rw [Array.toList_push, u.ents, List.map_append]
      rfl
    · intro x hx
      rcases List.mem_append.mp hx with q | q
      · exact keys_on (x := (x.1, x.2.1)) u (Heap.SameBut.update ..) (u.keys x q)
      · rw [List.mem_singleton.mp q]
        exact keys_on (x := (k, key)) u (Heap.SameBut.update ..) ⟨hk, hd8⟩
    · show ((xs ++ [(k, key, v)]).map (·.1)).Nodup
      rw [List.map_append]
      refine List.nodup_append.mpr ⟨u.nd, by simp, fun a ha b hb e => ?_⟩
      rw [List.map_singleton, List.mem_singleton] at hb
      obtain ⟨x, hx, rfl⟩ := List.mem_map.mp ha
      have := List.findIdx?_eq_none_iff.mp hp x hx
      exact absurd (e.trans hb) (of_decide_eq_false this)
  | some i =>
    obtain ⟨x, hx, hxk⟩ := pos_is hp
    refine wpAny_bind (wpAny_rule (wpAny_bind (wpAny_updateDict (s := { s with toks := s.toks + k.draws }) u.get u.data (wpAny_point (h _ _ _ ep ⟨Heap.get?_update_self _ u.get (Obj.isFreed_of_dict (Obj.data_mapDict u.data _)), u.exact_.mapDict _, Obj.data_mapDict u.data _, ?_, ?_, ?_⟩ (Heap.SameBut.update ..))))))
    all_goals unfold setU
    all_goals rw [hp]
    · refine List.ext_getElem? fun j => ?_
      rw [Array.toList_modify, u.ents, List.getElem?_map, List.getElem?_modify, List.getElem?_modify, List.getElem?_map]
      cases xs[j]? with
      | none => rfl
      | some y =>
        by_cases e : i = j
        · simp [e, ent]
        · simp [e, ent]
    · intro y hy
      obtain ⟨j, hj⟩ := List.mem_iff_getElem?.mp hy
      rw [List.getElem?_modify] at hj
      cases hz : xs[j]? with
      | none =>
        rw [hz] at hj
        cases hj
      | some z =>
        rw [hz] at hj
        have kz : ∀ f : Obj → Obj, NestedIs (s.heap.update d f) z.1 z.2.1 ∧ z.1.depth ≤ 8 := fun f => keys_on (x := (z.1, z.2.1)) u (Heap.SameBut.update _ _ f) (u.keys z (List.mem_of_getElem? hz))
        by_cases e : i = j
        · simp [e] at hj
          subst hj
          exact kz _
        · simp [e] at hj
          subst hj
          exact kz _
    · have : ((xs.modify i fun x => (x.1, x.2.1, v)).map (·.1)) = xs.map (·.1) := by
        refine List.ext_getElem? fun j => ?_
        rw [List.getElem?_map, List.getElem?_map, List.getElem?_modify]
        cases xs[j]? with
        | none => rfl
        | some y =>
          by_cases e : i = j
          · simp [e]
          · simp [e]
      show ((xs.modify i fun x => (x.1, x.2.1, v)).map (·.1)).Nodup
      rw [this]
      exact u.nd
/-- key in d -/
theorem in_u {Q : Value → Shared → Prop} (hu : A.in1.units + 8 < cLine) (hd : (d == sysModules) = false) (u : UD w s.heap d xs o es ep) (hk : NestedIs s.heap k key) (hd8 : k.depth ≤ 8)
    (h : Q (.bool (valU xs k).isSome) { s with toks := s.toks + k.draws }) : wpAny (model prog w) A (compareOp .In key (.ref d)) Q E s := by
  show wpAny _ _ (do return .bool (← contains (.ref d) key)) Q E s
  refine wpAny_bind ?_
  unfold contains
  with_reducible refine wpAny_holding ?_
  refine wpAny_bind (wpAny_specialOf u.type slot_dict_contains.lookup ?_)
  show wpAny _ _ (if (some (Value.builtin "dict.__contains__") == some Value.none) = true then _ else _) _ E s
  rw [if_neg (by rw [beq_builtin_none]; exact Bool.false_ne_true)]
  refine wpAny_bind (wpAny_callSpecialUnlessNone?_slot (name := Str.ofString "__contains__") u.type slot_dict_contains (wpAny_call_entry slot_dict_contains u.type entry_dict_contains ?_ (args_dict_contains _ _)))
  show wpAny _ _ (dictGet d key >>= _) _ _ s
  refine wpAny_bind (get_u hu u hk hd8 ?_)
  cases hf : valU xs k with
  | some p =>
    rw [hf] at h
    show wpAny _ _ (ret (.bool true)) _ _ _
    exact wpAny_pure ⟨_, rfl, wpAny_truthy_bool (wpAny_pure h)⟩
  | none =>
    rw [hf] at h
    show wpAny _ _ (Builtin.Dict.pendingKey? d key >>= _) _ _ _
    exact wpAny_bind (wpAny_pendingKey_other hd (wpAny_pure ⟨_, rfl, wpAny_truthy_bool (wpAny_pure h)⟩))
/-- key not in d -/
theorem notIn_u {Q : Value → Shared → Prop} (hu : A.in1.units + 8 < cLine) (hd : (d == sysModules) = false) (u : UD w s.heap d xs o es ep) (hk : NestedIs s.heap k key) (hd8 : k.depth ≤ 8)
    (h : Q (.bool (!(valU xs k).isSome)) { s with toks := s.toks + k.draws }) : wpAny (model prog w) A (compareOp .NotIn key (.ref d)) Q E s := by
  show wpAny _ _ (do return .bool (!(← contains (.ref d) key))) Q E s
  refine wpAny_bind ?_
  unfold contains
  with_reducible refine wpAny_holding ?_
  refine wpAny_bind (wpAny_specialOf u.type slot_dict_contains.lookup ?_)
  show wpAny _ _ (if (some (Value.builtin "dict.__contains__") == some Value.none) = true then _ else _) _ E s
  rw [if_neg (by rw [beq_builtin_none]; exact Bool.false_ne_true)]
  refine wpAny_bind (wpAny_callSpecialUnlessNone?_slot (name := Str.ofString "__contains__") u.type slot_dict_contains (wpAny_call_entry slot_dict_contains u.type entry_dict_contains ?_ (args_dict_contains _ _)))
  show wpAny _ _ (dictGet d key >>= _) _ _ s
  refine wpAny_bind (get_u hu u hk hd8 ?_)
  cases hf : valU xs k with
  | some p =>
    rw [hf] at h
    show wpAny _ _ (ret (.bool true)) _ _ _
    exact wpAny_pure ⟨_, rfl, wpAny_truthy_bool (wpAny_pure h)⟩
  | none =>
    rw [hf] at h
    show wpAny _ _ (Builtin.Dict.pendingKey? d key >>= _) _ _ _
    exact wpAny_bind (wpAny_pendingKey_other hd (wpAny_pure ⟨_, rfl, wpAny_truthy_bool (wpAny_pure h)⟩))
/-- d[key] -/
theorem item_u {v : Value} {Q : Value → Shared → Prop} (hu : A.in1.units + 8 < cLine) (u : UD w s.heap d xs o es ep) (hk : NestedIs s.heap k key) (hd8 : k.depth ≤ 8) (hv : valU xs k = some v)
    (h : Q v { s with toks := s.toks + k.draws }) : wpAny (model prog w) A (getItem (.ref d) key) Q E s := by
  unfold getItem
  with_reducible refine wpAny_holding ?_
  refine wpAny_bind (wpAny_sequenceKey u.type (by decide) ?_)
  refine wpAny_bind (wpAny_callSpecial?_slot (name := Str.ofString "__getitem__") u.type slot_dict_getitem (wpAny_call_entry slot_dict_getitem u.type entry_dict_getitem ?_ (args_dict_getitem _ _)))
  show wpAny _ _ (dictGet d key >>= _) _ _ s
  refine wpAny_bind (get_u hu u hk hd8 ?_)
  rw [hv]
  exact wpAny_pure ⟨v, rfl, wpAny_pure h⟩
/-- d[key] = v -/
theorem setItem_u {v : Value} {Q : Unit → Shared → Prop} (hu : A.in1.units + 8 < cLine) (u : UD w s.heap d xs o es ep) (hk : NestedIs s.heap k key) (hd8 : k.depth ≤ 8) (hsz : xs.length ≤ sizeLine)
    (h : ∀ h' o' es' ep', UD w h' d (setU xs k key v) o' es' ep' → Heap.SameBut d s.heap h' → Q () { s with heap := h', toks := s.toks + k.draws }) : wpAny (model prog w) A (setItem (.ref d) key v) Q E s := by
  unfold setItem
  with_reducible refine wpAny_holding ?_
  refine wpAny_bind (wpAny_sequenceKey u.type (by decide) ?_)
  refine wpAny_bind (wpAny_callSpecial?_slot (name := Str.ofString "__setitem__") u.type slot_dict_setitem (wpAny_call_entry slot_dict_setitem u.type entry_dict_setitem ?_ (args_dict_setitem _ _ _)))
  show wpAny _ _ (Builtin.Dict.notOrdered "__setitem__" ⟨[.ref d, key, v], []⟩ >>= _) _ _ s
  refine wpAny_bind (wpAny_notOrdered_dict u.type ?_)
  show wpAny _ _ (dictSet d key v >>= _) _ _ s
  exact wpAny_bind (set_u hu u hk hd8 hsz fun h' o' es' ep' a b => wpAny_pure ⟨.none, rfl, wpAny_pure (h h' o' es' ep' a b)⟩)
end
end LU

namespace LU
open PySem PySem.Spec PyProof.Rows L2
/-! ### the same over the abstract heap -/
mutual
inductive NV (H : Hp) : NestedKey → V → Prop
  | none : NV H .none .non
  | num (i : Int) : NV H (.num i) (.int i)
  | text (x : Str) : NV H (.text x) (.str x)
  | tup {a : Addr} {vs : List V} {ks : List NestedKey} : H a = some (.tup vs) → NVs H ks vs → NV H (.tup ks) (.ref a)
inductive NVs (H : Hp) : List NestedKey → List V → Prop
  | nil : NVs H [] []
  | cons {k : NestedKey} {v : V} {ks : List NestedKey} {vs : List V} : NV H k v → NVs H ks vs → NVs H (k :: ks) (v :: vs)
end
mutual
theorem NV.mono {H H' : Hp} (t : ∀ b xs, H b = some (.tup xs) → H' b = some (.tup xs)) : ∀ {k : NestedKey} {v : V}, NV H k v → NV H' k v
  | _, _, .none => .none
  | _, _, .num i => .num i
  | _, _, .text x => .text x
  | _, _, .tup h q => .tup (t _ _ h) (NVs.mono t q)
theorem NVs.mono {H H' : Hp} (t : ∀ b xs, H b = some (.tup xs) → H' b = some (.tup xs)) : ∀ {ks : List NestedKey} {vs : List V}, NVs H ks vs → NVs H' ks vs
  | _, _, .nil => .nil
  | _, _, .cons a b => .cons (NV.mono t a) (NVs.mono t b)
end
mutual
theorem NV.is {P : Program} {w : World} {H : Hp} {h : Heap} (ok : HOk P w H h) : ∀ {k : NestedKey} {v : V}, NV H k v → ∀ {u : Value}, RelV v u → NestedIs h k u
  | _, _, .none, u, r => by
    obtain rfl : u = Value.none := r
    exact .none
  | _, _, .num i, u, r => by
    obtain ⟨t, rfl⟩ : ∃ t, u = Value.int i t := r
    exact .int i t
  | _, _, .text x, u, r => by
    obtain ⟨t, rfl⟩ : ∃ t, u = Value.str x t := r
    exact .text x t
  | _, _, .tup (a := a) hh q, u, r => by
    obtain rfl : u = Value.ref a := r
    obtain ⟨_, its, rv, o, h1, h2, n, h3⟩ := (show ObjOk P w H h a (.tup _) from ok a _ hh)
    exact .tup h1 h2 h3 (by simpa using NVs.is ok q rv)
theorem NVs.is {P : Program} {w : World} {H : Hp} {h : Heap} (ok : HOk P w H h) : ∀ {ks : List NestedKey} {vs : List V}, NVs H ks vs → ∀ {us : List Value}, Vals vs us → NestedAll h ks us
  | _, _, .nil, us, r => by
    cases r
    exact .nil
  | _, _, .cons a b, us, r => by
    cases r with
    | cons r1 r2 => exact .cons (NV.is ok a r1) (NVs.is ok b r2)
end
/-- a dict's rows: key, what was handed in as key, what stands there -/
abbrev Trio := NestedKey × V × V
abbrev RR : List Trio → List Row3 → Prop := Paired fun (p : Trio) (q : Row3) => p.1 = q.1 ∧ RelV p.2.1 q.2.1 ∧ RelV p.2.2 q.2.2
def UO (w : World) (d : Addr) (xs : List Trio) : HO := .ext fun h => xs.length ≤ sizeLine ∧ (d == sysModules) = false ∧ ∃ rs : List Row3, RR xs rs ∧ ∃ o es ep, h.get? d = some o ∧ o.ExactDict ∧ o.data = .dict es ep ∧ es.toList = rs.map (ent w) ∧ (rs.map (·.1)).Nodup
abbrev kvOf (xs : List Trio) : List (NestedKey × V) := xs.map fun x => (x.1, x.2.2)
/-- at d stands a dict with these keys and things -/
def UAt (w : World) (H : Hp) (d : Addr) (kvs : List (NestedKey × V)) : Prop := ∃ xs, H d = some (UO w d xs) ∧ (∀ x ∈ xs, NV H x.1 x.2.1 ∧ x.1.depth ≤ 8) ∧ kvOf xs = kvs
theorem UAt.mono {w : World} {H H' : Hp} {d : Addr} {kvs : List (NestedKey × V)} (u : UAt w H d kvs) (t : ∀ b xs, H b = some (.tup xs) → H' b = some (.tup xs)) (e : ∀ o, H d = some o → H' d = some o) : UAt w H' d kvs := by
  obtain ⟨xs, a, b, c⟩ := u
  exact ⟨xs, e _ a, fun x hx => ⟨(b x hx).1.mono t, (b x hx).2⟩, c⟩
theorem UAt.same {w : World} {H H' : Hp} {d : Addr} {kvs : List (NestedKey × V)} (u : UAt w H d kvs) (s : Same H H') : UAt w H' d kvs := u.mono (fun b xs h => s b _ h) fun o h => s d o h
theorem UAt.ne {w : World} {H : Hp} {d b : Addr} {kvs : List (NestedKey × V)} {o : HO} (u : UAt w H d kvs) (h : H b = some o) (no : ∀ φ, o ≠ .ext φ) : d ≠ b := by
  obtain ⟨xs, a, _, _⟩ := u
  rintro rfl
  rw [h] at a
  exact no _ (Option.some.inj a)
theorem UAt.ne_none {w : World} {H : Hp} {d b : Addr} {kvs : List (NestedKey × V)} (u : UAt w H d kvs) (h : H b = none) : d ≠ b := by
  obtain ⟨xs, a, _, _⟩ := u
  exact ne_of_none a h
theorem RR.len {xs : List Trio} {rs : List Row3} (r : RR xs rs) : xs.length = rs.length := Paired.length r
theorem RR.keys {xs : List Trio} {rs : List Row3} (r : RR xs rs) : xs.map (·.1) = rs.map (·.1) := by
  induction r with
  | nil => rfl
  | cons h t ih => rw [List.map_cons, List.map_cons, ih, h.1]
theorem RR.at_ {xs : List Trio} {rs : List Row3} (r : RR xs rs) : ∀ {i : Nat} {y : Row3}, rs[i]? = some y → ∃ x, xs[i]? = some x ∧ x.1 = y.1 ∧ RelV x.2.1 y.2.1 ∧ RelV x.2.2 y.2.2 := by
  induction r with
  | nil => intro i y e; simp at e
  | @cons p q ps qs h t ih =>
    intro i y e
    cases i with
    | zero =>
      cases e
      exact ⟨p, rfl, h⟩
    | succ i => exact ih (by simpa using e)
section
variable {P : Program} {w : World} {H : Hp} {h : Heap} {d : Addr} {kvs : List (NestedKey × V)}
theorem UAt.ud (u : UAt w H d kvs) (ok : HOk P w H h) : ∃ (xs : List Trio) (rs : List Row3) (o : Obj) (es : Array DictEntry) (ep : Nat), H d = some (UO w d xs) ∧ (∀ x ∈ xs, NV H x.1 x.2.1 ∧ x.1.depth ≤ 8) ∧ kvOf xs = kvs ∧ xs.length ≤ sizeLine ∧ (d == sysModules) = false ∧ RR xs rs ∧ UD w h d rs o es ep := by
  obtain ⟨xs, a, b, c⟩ := u
  obtain ⟨⟨z, hd, rs, rr, o, es, ep, h1, h2, h3, h4, h5⟩, _, _⟩ := (show ObjOk P w H h d (UO w d xs) from ok d _ a)
  refine ⟨xs, rs, o, es, ep, a, b, c, z, hd, rr, ⟨h1, h2, h3, h4, fun y hy => ?_, h5⟩⟩
  obtain ⟨i, hi⟩ := List.mem_iff_getElem?.mp hy
  obtain ⟨x, hx, e1, e2, _⟩ := rr.at_ hi
  obtain ⟨n1, n2⟩ := b x (List.mem_of_getElem? hx)
  rw [← e1]
  exact ⟨n1.is ok e2, n2⟩
theorem RR.val {xs : List Trio} {rs : List Row3} (r : RR xs rs) (k : NestedKey) : RelO (valV (kvOf xs) k) (valU rs k) := by
  have aux : ∀ {xs : List Trio} {rs : List Row3}, RR xs rs → RelO (valV (kvOf xs) k) ((rs.find? fun x => decide (x.1 = k)).map (·.2.2)) := by
    intro xs rs r
    induction r with
    | nil => exact True.intro
    | @cons p q ps qs h t ih =>
      obtain ⟨h1, _, h3⟩ := h
      by_cases e : p.1 = k
      · have e' : q.1 = k := h1.symm.trans e
        show RelO (valV ((p.1, p.2.2) :: kvOf ps) k) _
        rw [valV_pos (p := (p.1, p.2.2)) e, List.find?_cons, decide_eq_true e']
        exact h3
      · have e' : ¬ q.1 = k := fun z => e (h1.trans z)
        show RelO (valV ((p.1, p.2.2) :: kvOf ps) k) _
        rw [valV_neg (p := (p.1, p.2.2)) e, List.find?_cons, decide_eq_false e']
        exact ih
  have : valU rs k = (rs.find? fun x => decide (x.1 = k)).map (·.2.2) := by
    unfold valU pos
    clear r aux
    induction rs with
    | nil => rfl
    | cons y r ih =>
      rw [List.findIdx?_cons, List.find?_cons]
      by_cases e : y.1 = k
      · rw [decide_eq_true e]
        rfl
      · rw [decide_eq_false e]
        dsimp only
        rw [← ih]
        cases List.findIdx? (fun x => decide (x.1 = k)) r with
        | none => rfl
        | some j => rfl
  rw [this]
  exact aux r
/-- the rows behind a store -/
def putX (xs : List Trio) (k : NestedKey) (y v : V) : List Trio :=
  if (xs.any fun x => decide (x.1 = k)) = true then xs.map (fun x => if x.1 = k then (x.1, x.2.1, v) else x) else xs ++ [(k, y, v)]
theorem putX_kv (xs : List Trio) (k : NestedKey) (y v : V) : kvOf (putX xs k y v) = putK (kvOf xs) k v := by
  unfold putX putK
  rw [List.any_map]
  by_cases e : (xs.any fun x => decide (x.1 = k)) = true
  · rw [if_pos e, if_pos (show (xs.any ((fun kv : NestedKey × V => decide (kv.1 = k)) ∘ fun x : Trio => (x.1, x.2.2))) = true from e)]
    unfold kvOf
    rw [List.map_map, List.map_map]
    refine List.map_congr_left fun x _ => ?_
    show (((if x.1 = k then (x.1, x.2.1, v) else x) : Trio).1, ((if x.1 = k then (x.1, x.2.1, v) else x) : Trio).2.2) = if x.1 = k then (x.1, v) else (x.1, x.2.2)
    split <;> rfl
  · rw [if_neg e, if_neg (show ¬ (xs.any ((fun kv : NestedKey × V => decide (kv.1 = k)) ∘ fun x : Trio => (x.1, x.2.2))) = true from e)]
    unfold kvOf
    rw [List.map_append]
    rfl
theorem RR.put {xs : List Trio} {rs : List Row3} (r : RR xs rs) (nd : (rs.map (·.1)).Nodup) (k : NestedKey) {y v : V} {u z : Value} (ry : RelV y u) (rv : RelV v z) : RR (putX xs k y v) (setU rs k u z) := by
  unfold putX setU
  cases hp : pos rs k with
  | none =>
    have : ¬ (xs.any fun x => decide (x.1 = k)) = true := fun q => by
      obtain ⟨x, hx, e⟩ := List.any_eq_true.mp q
      have m : x.1 ∈ xs.map (·.1) := List.mem_map.mpr ⟨x, hx, rfl⟩
      rw [r.keys] at m
      obtain ⟨y', hy', e'⟩ := List.mem_map.mp m
      have := List.findIdx?_eq_none_iff.mp hp y' hy'
      exact absurd (e'.trans (of_decide_eq_true e)) (of_decide_eq_false this)
    rw [if_neg this]
    exact Paired.snoc r ⟨rfl, ry, rv⟩
  | some i =>
    obtain ⟨q, hq, ek⟩ := pos_is hp
    obtain ⟨x, hx, e1, _, _⟩ := r.at_ hq
    rw [if_pos (List.any_eq_true.mpr ⟨x, List.mem_of_getElem? hx, decide_eq_true (e1.trans ek)⟩)]
    dsimp only
    have e : (rs.modify i fun x => (x.1, x.2.1, z)) = rs.map fun x => if x.1 = k then (x.1, x.2.1, z) else x := by
      refine List.ext_getElem? fun j => ?_
      rw [List.getElem?_modify, List.getElem?_map]
      cases hj : rs[j]? with
      | none => rfl
      | some t =>
        by_cases c : i = j
        · subst c
          rw [hq] at hj
          cases hj
          simp [ek]
        · have : ¬ t.1 = k := fun w' => c (by
            have a1 := pos_some nd hj
            rw [w', hp] at a1
            exact Option.some.inj a1)
          simp [c, this]
    rw [e]
    clear e hp hq hx
    induction r with
    | nil => exact .nil
    | @cons p q ps qs h t ih =>
      obtain ⟨h1, h2, h3⟩ := h
      rw [List.map_cons, List.map_cons]
      refine .cons ?_ (ih (List.nodup_cons.mp nd).2)
      by_cases c : p.1 = k
      · rw [if_pos c, if_pos (h1.symm.trans c)]
        exact ⟨h1, h2, rv⟩
      · rw [if_neg c, if_neg fun w' => c (h1.trans w')]
        exact ⟨h1, h2, h3⟩
end
end LU
namespace LU
open PySem PySem.Spec PyProof.Rows L2
section
variable {X : Cx} {pins : List (Addr × Obj)} {σ : L2.St} {H : Hp} {s : Shared} {a : Addr} {kvs : List (NestedKey × V)} {k : NestedKey} {y v : V} {u z : Value} {E : Value → Shared → Prop}
theorem uo_ok {P : Program} {w : World} {H : Hp} {h : Heap} {d : Addr} {xs : List Trio} {rs : List Row3} {o : Obj} {es : Array DictEntry} {ep : Nat} (hl : xs.length ≤ sizeLine) (hd : (d == sysModules) = false) (r : RR xs rs) (q : UD w h d rs o es ep) : ObjOk P w H h d (UO w d xs) := by
  refine ⟨⟨hl, hd, rs, r, o, es, ep, q.get, q.exact_, q.data, q.ents, q.nd⟩, ⟨o, q.get⟩, fun h1 h2 p e => ?_⟩
  obtain ⟨a, b, rs', r', o', es', ep', c, t⟩ := p
  exact ⟨a, b, rs', r', o', es', ep', e _ c, t⟩
theorem u_in {Q : Value → Shared → Prop} (hu : X.A.units + 64 < cLine) (I : Inv X pins σ H s) (g : UAt X.w H a kvs) (n : NV H k y) (hd : k.depth ≤ 8) (ry : RelV y u) (h : ∀ s', Inv X pins σ H s' → Q (.bool (valV kvs k).isSome) s') :
    wpAny (model X.prog X.w) X.A (compareOp .In u (.ref a)) Q E s := by
  obtain ⟨xs, rs, o, es, ep, _, _, c, _, hs, rr, ud⟩ := g.ud I.hok
  refine in_u (by rw [Around.in1_units]; omega) hs ud (n.is I.hok ry) hd ?_
  have e := (rr.val k).isSome_eq
  rw [c] at e
  rw [← e]
  exact h _ (I.tok _)
theorem u_notIn {Q : Value → Shared → Prop} (hu : X.A.units + 64 < cLine) (I : Inv X pins σ H s) (g : UAt X.w H a kvs) (n : NV H k y) (hd : k.depth ≤ 8) (ry : RelV y u) (h : ∀ s', Inv X pins σ H s' → Q (.bool (!(valV kvs k).isSome)) s') :
    wpAny (model X.prog X.w) X.A (compareOp .NotIn u (.ref a)) Q E s := by
  obtain ⟨xs, rs, o, es, ep, _, _, c, _, hs, rr, ud⟩ := g.ud I.hok
  refine notIn_u (by rw [Around.in1_units]; omega) hs ud (n.is I.hok ry) hd ?_
  have e := (rr.val k).isSome_eq
  rw [c] at e
  rw [← e]
  exact h _ (I.tok _)
theorem u_getItem {Q : Value → Shared → Prop} (hu : X.A.units + 64 < cLine) (I : Inv X pins σ H s) (g : UAt X.w H a kvs) (n : NV H k y) (hd : k.depth ≤ 8) (hv : valV kvs k = some v) (ry : RelV y u) (h : ∀ w' s', Inv X pins σ H s' → RelV v w' → Q w' s') :
    wpAny (model X.prog X.w) X.A (getItem (.ref a) u) Q E s := by
  obtain ⟨xs, rs, o, es, ep, _, _, c, _, hs, rr, ud⟩ := g.ud I.hok
  have e := rr.val k
  rw [c] at e
  obtain ⟨w', hw, rw'⟩ := RelO.some_of (v := v) (o := valU rs k) (by rw [← hv]; exact e)
  exact item_u (by rw [Around.in1_units]; omega) ud (n.is I.hok ry) hd hw (h w' _ (I.tok _) rw')
theorem putX_len (xs : List Trio) (k : NestedKey) (y v : V) : (putX xs k y v).length ≤ xs.length + 1 := by
  unfold putX
  split
  · rw [List.length_map]
    omega
  · rw [List.length_append]
    exact Nat.le_refl _
/-- the heap behind a store into such a dict -/
def UPut (w : World) (H : Hp) (a : Addr) (kvs : List (NestedKey × V)) (H' : Hp) : Prop := UAt w H' a kvs ∧ (∀ b, b ≠ a → H' b = H b)
theorem UPut.tups {w : World} {H H' : Hp} {a : Addr} {kvs kvs' : List (NestedKey × V)} (g : UAt w H a kvs') (p : UPut w H a kvs H') : ∀ b xs, H b = some (.tup xs) → H' b = some (.tup xs) := fun b xs e => by
  rw [p.2 b (g.ne e (fun φ z => by cases z)).symm]
  exact e
theorem u_setItem {Q : Unit → Shared → Prop} (hu : X.A.units + 64 < cLine) (I : Inv X pins σ H s) (g : UAt X.w H a kvs) (n : NV H k y) (hd : k.depth ≤ 8) (hl : kvs.length < sizeLine) (ry : RelV y u) (rv : RelV v z)
    (h : ∀ H' s', UPut X.w H a (putK kvs k v) H' → Inv X pins σ H' s' → Q () s') :
    wpAny (model X.prog X.w) X.A (setItem (.ref a) u z) Q E s := by
  obtain ⟨xs, rs, o, es, ep, ea, ks, c, hz, hs, rr, ud⟩ := g.ud I.hok
  have lx : xs.length = kvs.length := by rw [← c, List.length_map]
  refine setItem_u (by rw [Around.in1_units]; omega) ud (n.is I.hok ry) hd (by rw [← rr.len]; exact hz) fun h' o' es' ep' ud' sb => ?_
  have nt : ∀ b ys, H b = some (.tup ys) → (upd H a (UO X.w a (putX xs k y v))) b = some (.tup ys) := fun b ys e => by
    rw [upd_ne (ne_of e ea (by intro z; cases z))]
    exact e
  refine h (upd H a (UO X.w a (putX xs k y v))) _ ⟨⟨_, upd_same, fun x hx => ?_, ?_⟩, fun b hb => upd_ne hb⟩ (d_write I (by rw [ea]; exact True.intro) sb ⟨_, ud'.get⟩ (uo_ok ?_ hs (rr.put ud.nd k ry rv) ud'))
  · unfold putX at hx
    split at hx
    · obtain ⟨x', hx', rfl⟩ := List.mem_map.mp hx
      have := ks x' hx'
      split
      · exact ⟨this.1.mono nt, this.2⟩
      · exact ⟨this.1.mono nt, this.2⟩
    · rcases List.mem_append.mp hx with q | q
      · exact ⟨(ks x q).1.mono nt, (ks x q).2⟩
      · rw [List.mem_singleton.mp q]
        exact ⟨n.mono nt, hd⟩
  · rw [putX_kv, c]
  · have := putX_len xs k y v
    omega
theorem u_empty {P : Program} {w : World} {H : Hp} (h : Heap) (hb : sysModules < h.objs.size) : ObjOk P w H (h.push { cls := .type "dict", data := .dict #[] }) h.objs.size (UO w h.objs.size []) :=
  uo_ok (rs := []) (Nat.zero_le _) (beq_eq_false_iff_ne.mpr (Ne.symm (Nat.ne_of_lt hb))) .nil ⟨Heap.get?_push_size _ rfl, ⟨rfl, rfl, rfl⟩, rfl, rfl, (fun _ q => nomatch q), List.nodup_nil⟩
theorem u_new {w : World} {H : Hp} {p : Addr} : UAt w (upd H p (UO w p [])) p [] := ⟨[], upd_same, (fun _ q => nomatch q), rfl⟩
end
/-! ### readings and rules -/
def tUNew (w : World) : TE := fun _ H Q => ∀ p, H p = none → ∀ H', UAt w H' p [] → (∀ b, b ≠ p → H' b = H b) → Q (.ref p) H'
def tUGet (w : World) (td ty : TE) : TE := fun σ H Q => td σ H fun x H1 => ty σ H1 fun y H2 => ∃ a kvs k v, x = .ref a ∧ UAt w H2 a kvs ∧ NV H2 k y ∧ k.depth ≤ 8 ∧ valV kvs k = some v ∧ Q v H2
def tUIn (w : World) (ty td : TE) : TE := fun σ H Q => ty σ H fun y H1 => td σ H1 fun x H2 => ∃ a kvs k, x = .ref a ∧ UAt w H2 a kvs ∧ NV H2 k y ∧ k.depth ≤ 8 ∧ Q (.bl (valV kvs k).isSome) H2
def tUNotIn (w : World) (ty td : TE) : TE := fun σ H Q => ty σ H fun y H1 => td σ H1 fun x H2 => ∃ a kvs k, x = .ref a ∧ UAt w H2 a kvs ∧ NV H2 k y ∧ k.depth ≤ 8 ∧ Q (.bl (!(valV kvs k).isSome)) H2
def sUPut (w : World) (td ty tv : TE) : TS := fun D σ H => tv σ H fun v H1 => td σ H1 fun x H2 => ty σ H2 fun y H3 => ∃ a kvs k, x = .ref a ∧ UAt w H3 a kvs ∧ NV H3 k y ∧ k.depth ≤ 8 ∧ kvs.length < sizeLine ∧ ∀ H4, UPut w H3 a (putK kvs k v) H4 → D.nx σ H4
/-- {k: v} -/
def tUDisp (w : World) (tk tv : TE) : TE := fun σ H Q => ∀ p, H p = none → ∀ H0, UAt w H0 p [] → (∀ b, b ≠ p → H0 b = H b) → tk σ H0 fun x H1 => tv σ H1 fun y H2 => UAt w H2 p [] ∧ ∃ k, NV H2 k x ∧ k.depth ≤ 8 ∧ ∀ H3, UPut w H2 p [(k, y)] H3 → Q (.ref p) H3
section
variable {X : Cx} {o i e value : Expr} {pos pos' tpos : Pos} {td ty tv tk : TE} {w : World}
theorem pe_unew (hw : X.w = w) : PE X (.Dict [] [] pos) (tUNew w) := by
  subst hw
  exact ⟨fun pins s σ H Q I h => wpAny_Dict_empty ⟨.ref s.heap.objs.size, _, I.laid (a := s.heap.objs.size) (o := UO X.w s.heap.objs.size []) (t' := s.toks) (fun _ _ q => Heap.get?_push_of_some _ q) (Nat.le_refl _) (u_empty s.heap I.big), rfl, h _ (I.hok.fresh (Nat.le_refl _)) _ u_new fun b hb => upd_ne hb⟩⟩
theorem pe_uget (hw : X.w = w) (hu : X.A.units + 64 < cLine) (ho : PE X o td) (hi : PE X i ty) (hs : NoSl i) : PE X (.Subscript o i pos) (tUGet w td ty) := by
  subst hw
  refine ⟨fun pins s σ H Q I h => ?_⟩
  refine subD_of PySem.F.slot_dict_getitem.lookup hs (thn (ho.run pins s σ H _ I h) fun u s1 ⟨x, H1, I1, rx, q1⟩ => thn (hi.run pins s1 σ H1 _ I1 q1) fun iv s2 ⟨y, H2, I2, ry, a, kvs, k, v, ex, g, n, hd, hv, q2⟩ => ?_)
  subst ex
  obtain rfl : u = Value.ref a := rx
  obtain ⟨_, _, _, _, _, _, _, _, _, _, _, ud⟩ := g.ud I2.hok
  exact ⟨ud.type, u_getItem hu I2 g n hd hv ry fun w' s3 I3 rw' => ⟨v, H2, I3, rw', q2⟩⟩
theorem pc_uin (hw : X.w = w) (hu : X.A.units + 64 < cLine) (hi : PE X i ty) (ho : PE X o td) : PC X .In i o (tUIn w ty td) := by
  subst hw
  refine ⟨fun pins s σ H Q I h => ?_⟩
  refine thn (hi.run pins s σ H _ I h) fun iv s1 ⟨y, H1, I1, ry, q1⟩ => thn (ho.run pins s1 σ H1 _ I1 q1) fun u s2 ⟨x, H2, I2, rx, a, kvs, k, ex, g, n, hd, q2⟩ => ?_
  subst ex
  obtain rfl : u = Value.ref a := rx
  exact u_in hu I2 g n hd ry fun s3 I3 => ⟨.bl (valV kvs k).isSome, H2, I3, rfl, q2⟩
theorem pc_unotin (hw : X.w = w) (hu : X.A.units + 64 < cLine) (hi : PE X i ty) (ho : PE X o td) : PC X .NotIn i o (tUNotIn w ty td) := by
  subst hw
  refine ⟨fun pins s σ H Q I h => ?_⟩
  refine thn (hi.run pins s σ H _ I h) fun iv s1 ⟨y, H1, I1, ry, q1⟩ => thn (ho.run pins s1 σ H1 _ I1 q1) fun u s2 ⟨x, H2, I2, rx, a, kvs, k, ex, g, n, hd, q2⟩ => ?_
  subst ex
  obtain rfl : u = Value.ref a := rx
  exact u_notIn hu I2 g n hd ry fun s3 I3 => ⟨.bl (!(valV kvs k).isSome), H2, I3, rfl, q2⟩
theorem ps_uput (hw : X.w = w) (hu : X.A.units + 64 < cLine) (ho : PE X o td) (hi : PE X i ty) (hv : PE X value tv) (hs : swapsWith value (some (.Subscript o i pos')) pos.line X.env = pure false) :
    PS X (.Assign [.Subscript o i pos'] value pos) (sUPut w td ty tv) := by
  subst hw
  refine ⟨fun pins s σ H D I h => ?_⟩
  refine wpAny_Assign_Subscript (thn (hv.run pins s σ H _ I h) fun r s1 ⟨v, H1, I1, rv, q1⟩ => thn (ho.run pins s1 σ H1 _ I1 q1) fun u s2 ⟨x, H2, I2, rx, q2⟩ => thn (hi.run pins s2 σ H2 _ I2 q2) fun iv s3 ⟨y, H3, I3, ry, a, kvs, k, ex, g, n, hd, hl, q3⟩ => ?_) hs
  subst ex
  obtain rfl : u = Value.ref a := rx
  exact u_setItem hu I3 g n hd hl ry rv fun H4 s4 p I4 => ⟨σ, H4, I4, q3 H4 p⟩
theorem pe_udisp (hw : X.w = w) (hu : X.A.units + 64 < cLine) (hk : PE X o tk) (hv : PE X value tv) : PE X (.Dict [some o] [value] pos) (tUDisp w tk tv) := by
  subst hw
  refine ⟨fun pins s σ H Q I q => ?_⟩
  have hn := I.hok.fresh (Nat.le_refl s.heap.objs.size)
  have I1 := I.laid (a := s.heap.objs.size) (o := UO X.w s.heap.objs.size []) (h' := s.heap.push { cls := .type "dict", data := .dict #[] }) (t' := s.toks) (fun _ _ q => Heap.get?_push_of_some _ q) (Nat.le_refl _) (u_empty s.heap I.big)
  rw [arm_eval_Dict, zip_pairTrees [some o] [value] X.env pos rfl rfl, dictDisplay_pairs _ (by intro z; cases z) (by show 1 < 17; decide)]
  refine wpAny_bind (wpAny_standAt (wpAny_bind ?_))
  unfold subDict
  refine wpAny_bind (wpAny_alloc ?_)
  refine wpAny_bind (wpAny_holding ?_)
  rw [if_pos (show (pairTrees [some o] [value] X.env pos).length ≤ 15 from (by decide : 1 ≤ 15))]
  refine wpAny_bind (pairTrees_cons_walk (thn (hk.run pins _ σ _ _ I1 (q _ hn _ u_new fun b hb => upd_ne hb)) fun u s1 ⟨x, H1, I2, rx, q1⟩ => thn (hv.run pins s1 σ H1 _ I2 q1) fun r s2 ⟨y, H2, I3, ry, g, k, n, hd, q2⟩ => pairTrees_nil_walk ?_))
  obtain ⟨xs, rs, ob, es, ep, ea, ks, c, hz, hs, rr, ud⟩ := g.ud I3.hok
  have ex : xs = [] := List.map_eq_nil_iff.mp c
  subst ex
  cases rr
  refine wpAny_holding ?_
  rw [List.forIn_cons]
  refine wpAny_bind (wpAny_bind (wpAny_bind (set_u (by omega) ud (n.is I3.hok rx) hd (Nat.zero_le _) fun h' o' es' ep' ud' sb => wpAny_pure ?_)))
  dsimp only
  rw [List.forIn_nil]
  have nt : ∀ b ys, H2 b = some (.tup ys) → (upd H2 s.heap.objs.size (UO X.w s.heap.objs.size (putX [] k x y))) b = some (.tup ys) := fun b ys e => by
    rw [upd_ne (ne_of e ea (by intro z; cases z))]
    exact e
  refine wpAny_pure (wpAny_pure (wpAny_pure (wpAny_pure ⟨.ref s.heap.objs.size, upd H2 s.heap.objs.size (UO X.w s.heap.objs.size (putX [] k x y)), ?_, rfl, q2 _ ⟨⟨_, upd_same, fun t ht => ?_, rfl⟩, fun b hb => upd_ne hb⟩⟩)))
  · exact d_write I3 (by rw [ea]; exact True.intro) sb ⟨_, ud'.get⟩ (uo_ok (by show 1 ≤ sizeLine; decide) hs (RR.put (xs := []) (rs := []) .nil List.nodup_nil k rx ry) ud')
  · rw [List.mem_singleton.mp ht]
    exact ⟨n.mono nt, hd⟩
end
/-- len(d) -/
theorem call_lenU {X : Cx} (w : World) (hw : X.w = w) : CallR X (.builtin "len") (fun xs H Q => ∃ a kvs, xs = [V.ref a] ∧ UAt w H a kvs ∧ Q (.int kvs.length) H) := by
  subst hw
  intro pins s σ H xs us Q I r h
  obtain ⟨a, kvs, rfl, g, q⟩ := h
  obtain ⟨u, rfl, ru⟩ := vals1 r
  cases ru
  obtain ⟨ys, rs, ob, es, ep, ea, ks, c, hz, hs, rr, ud⟩ := g.ud I.hok
  have sz : (es.size : Int) = (kvs.length : Int) := by
    rw [ud.size, ← rr.len, ← c, List.length_map]
  have fit : (kvs.length : Int) < 2 ^ 63 := by
    rw [← sz, ud.size, ← rr.len]
    rw [sizeLine_eq] at hz
    omega
  refine Calls.call_function_entry kind_len plain_len entry_len (args_len1 _) ?_
  unfold Builtin.«len»
  refine wpAny_bind (m := oneArg "len" _) (wpAny_pure ?_)
  refine wpAny_bind (m := callSpecial? (.ref a) (Str.ofString "__len__")) (wpAny_callSpecial?_slot (name := Str.ofString "__len__") ud.type PySem.F.slot_dict_len (wpAny_call_entry PySem.F.slot_dict_len ud.type PySem.F.entry_dict_len ?_ (PySem.F.args_dict_len_1 _)))
  show wpAny _ _ (dictSize a >>= _) _ _ s
  unfold dictSize
  refine wpAny_bind (wpAny_bind (wpAny_dictEntries ud.get ud.data (wpAny_pure ?_)))
  show wpAny _ _ (Builtin.Dict.pendingCount a >>= _) _ _ s
  refine wpAny_bind (wpAny_pendingCount_other hs ?_)
  refine wpAny_ret_mkInt ?_
  have e0 : (es.size : Int) + ((0 : Nat) : Int) = (kvs.length : Int) := (Int.add_zero _).trans sz
  rw [e0]
  show wpAny _ _ _ _ _ { s with toks := s.toks + 1 }
  refine wpAny_bind (wpAny_holding (wpAny_pure ?_))
  refine wpAny_bind (wpAny_letGo ?_)
  show wpAny _ _ (if ((kvs.length : Nat) : Int) < 0 then _ else _) _ _ _
  rw [if_neg (by omega)]
  show wpAny _ _ (if ((kvs.length : Nat) : Int) ≥ 2 ^ 63 then _ else _) _ _ _
  rw [if_neg (by omega)]
  exact wpAny_bind (wpAny_mkInt (wpAny_pure ⟨_, rfl, .int kvs.length, H, I.tok _, ⟨_, rfl⟩, q⟩))
end LU

namespace LH
open PySem PySem.Spec PyProof.Rows L2 NdefX
/-! ### the entry of a nested def that has cells of its own beside the captured ones -/
theorem cellsFrom_app : ∀ (names : List (Str × NameKind)) (n : Nat) (acc : List (Str × Addr)), cellsFrom n names acc = cellsFrom n names [] ++ acc
  | [], _, _ => rfl
  | (name, kind) :: r, n, acc => by
    unfold cellsFrom
    split
    · rw [cellsFrom_app r (n + 1) ((name, n) :: acc), cellsFrom_app r (n + 1) [(name, n)], List.append_assoc]
      rfl
    · exact cellsFrom_app r n acc
theorem mem_cellsFrom : ∀ {names : List (Str × NameKind)} {n : Nat} {acc : List (Str × Addr)} {x : Str} {c : Addr}, (x, c) ∈ cellsFrom n names acc → (x, c) ∈ acc ∨ (x, NameKind.cell) ∈ names
  | [], _, _, _, _, h => .inl h
  | (name, kind) :: r, n, acc, x, c, h => by
    unfold cellsFrom at h
    split at h
    · rename_i hk
      rcases mem_cellsFrom h with q | q
      · rcases List.mem_cons.mp q with e | q
        · cases e
          have : kind = .cell := beq_iff_eq.mp hk
          subst this
          exact .inr List.mem_cons_self
        · exact .inl q
      · exact .inr (List.mem_cons_of_mem _ q)
    · rcases mem_cellsFrom h with q | q
      · exact .inl q
      · exact .inr (List.mem_cons_of_mem _ q)
section
variable {M : Model} {A : Around} {E : Value → Shared → Prop} {s₀ s : Shared} {m cm : Str → Option Value} {env : Env} {own : List (Str × Addr)}
theorem stL_own {n : Str} {v : Value} {Q : Unit → Shared → Prop} (x : InCallC s₀ env.locals m own cm s) (hk : env.scope.kind = .function) (hl : env.kindOf n = some .local)
    (h : ∀ s', InCallC s₀ env.locals (fun y => if y = n then some v else m y) own cm s' → Q () s') : wpAny M A (storeName env n v) Q E s := by
  refine wpAny_storeName_local hl x.toInCall.ns (fun h' hn' hs' => h _ ⟨⟨?_, hn', fun b o e => ?_, x.toInCall.fresh⟩, fun k c hc => ?_, x.apart, x.above⟩) (by rw [hk]; rfl)
  · obtain ⟨h₁, tk, rfl⟩ := x.toInCall.same
    exact ⟨h', _, rfl⟩
  · exact hs'.extBut b o (Nat.ne_of_lt (Nat.lt_of_lt_of_le (Heap.lt_size e) x.toInCall.fresh)) (x.toInCall.keep b o e)
  · exact (x.cell k c hc).sameBut hs' (Nat.ne_of_gt (x.above k c (PySem.mem_of_lookup hc)))
theorem stC_own {n : Str} {c : Addr} {v : Value} {Q : Unit → Shared → Prop} (x : InCallC s₀ env.locals m own cm s) (hk : env.scope.kind = .function) (hl : env.kindOf n = some .cell)
    (ho : own.lookup n = some c) (hc : env.cells.lookup n = some c)
    (h : ∀ s', InCallC s₀ env.locals m own (fun y => if y = n then some v else cm y) s' → Q () s') : wpAny M A (storeName env n v) Q E s := by
  have hLc := x.above n c (PySem.mem_of_lookup ho)
  refine wpAny_storeName_cell hk hl hc (x.cell n c ho) fun h' hc' hs' => h _ ⟨⟨?_, x.toInCall.ns.sameBut hs' (Nat.ne_of_lt hLc), fun b o e => ?_, x.toInCall.fresh⟩, fun k c' hk' => ?_, x.apart, x.above⟩
  · obtain ⟨h₁, tk, rfl⟩ := x.toInCall.same
    exact ⟨h', _, rfl⟩
  · exact hs'.extBut b o (Nat.ne_of_lt (Nat.lt_trans (Nat.lt_of_lt_of_le (Heap.lt_size e) x.toInCall.fresh) hLc)) (x.toInCall.keep b o e)
  · by_cases hkn : k = n
    · subst hkn
      rw [ho] at hk'; cases hk'
      simpa using hc'
    · rw [if_neg hkn]
      exact (x.cell k c' hk').sameBut hs' fun e => hkn (name_of_addr x.apart (PySem.mem_of_lookup hk') (e ▸ PySem.mem_of_lookup ho))
theorem wpAny_bind_own (f : Str × Value → PUnit → Sem (ForInStep PUnit)) (hf : ∀ n v u, f (n, v) u = (do storeName env n v; pure (.yield ⟨⟩))) (hk : env.scope.kind = .function) (hsub : ∀ n c, own.lookup n = some c → env.cells.lookup n = some c) :
    ∀ (binds : List (Str × Value)) (m cm : Str → Option Value) (s : Shared) (Q : PUnit → Shared → Prop), InCallC s₀ env.locals m own cm s →
      (∀ x ∈ binds, env.kindOf x.1 = some .local ∨ (env.kindOf x.1 = some .cell ∧ (own.lookup x.1).isSome = true)) →
      (∀ s', InCallC s₀ env.locals (bindL env.kindOf binds m) own (bindC env.kindOf binds cm) s' → Q ⟨⟩ s') → wpAny M A (forIn binds ⟨⟩ f) Q E s
  | [], m, cm, s, Q, x, _, h => by rw [List.forIn_nil]; exact wpAny_pure (h s x)
  | (n, v) :: r, m, cm, s, Q, x, hkind, h => by
    rw [List.forIn_cons, hf]
    have hr : ∀ y ∈ r, env.kindOf y.1 = some .local ∨ (env.kindOf y.1 = some .cell ∧ (own.lookup y.1).isSome = true) := fun y hy => hkind y (List.mem_cons_of_mem _ hy)
    rcases hkind (n, v) List.mem_cons_self with hl | ⟨hl, hc⟩
    · refine wpAny_bind (wpAny_bind (stL_own x hk hl fun s' x' => wpAny_pure (wpAny_bind_own f hf hk hsub r _ _ s' Q x' hr fun s'' x'' => h s'' ?_)))
      unfold bindL bindC; rw [if_pos hl, if_pos hl]; exact x''
    · obtain ⟨c, hc⟩ := Option.isSome_iff_exists.mp hc
      have hnl : ¬ env.kindOf n = some .local := by rw [hl]; decide
      refine wpAny_bind (wpAny_bind (stC_own x hk hl hc (hsub n c hc) fun s' x' => wpAny_pure (wpAny_bind_own f hf hk hsub r _ _ s' Q x' hr fun s'' x'' => h s'' ?_)))
      unfold bindL bindC; rw [if_neg hnl, if_neg hnl]; exact x''
end
section
variable {M : Model} {A : Around} {E : Value → Shared → Prop} {s : Shared}
theorem wpAny_newFunctionEnv_own {scope : Scope} {globals : Addr} {cl : List (Str × Addr)} {binds : List (Str × Value)} {qual : Str} {func : Option Addr} {code : Value} {builtins : Addr} {Q : Env → Shared → Prop}
    (hk : scope.kind = .function)
    (hkind : ∀ x ∈ binds, scope.names.lookup x.1 = some .local ∨ (scope.names.lookup x.1 = some .cell ∧ ((cellsFrom (s.heap.objs.size + 1) scope.names []).lookup x.1).isSome = true))
    (hQ : ∀ env, env = newEnv scope s.heap.objs.size globals (cellsFrom (s.heap.objs.size + 1) scope.names [] ++ cl) qual func code none builtins →
      ∀ s', InCallC s env.locals (bindL env.kindOf binds fun _ => none) (cellsFrom (s.heap.objs.size + 1) scope.names []) (bindC env.kindOf binds fun _ => none) s' → Q env s') :
    wpAny M A (newFunctionEnv scope globals cl binds qual func code none builtins) Q E s := by
  simp only [newFunctionEnv, Option.isSome_none, Bool.false_eq_true, if_false]
  refine wpAny_bind (wpAny_alloc ?_)
  refine wpAny_bind (wpAny_layCells _ (fun name kind cells => by cases hkc : kind == NameKind.cell <;> simp [hkc]) _ _ _ _ ?_)
  have ok := cellsFrom_ok scope.names (s.heap.push { cls := .type "frame", data := .dict #[] }) (s.heap.objs.size + 1) [] ⟨fun _ _ hm => (nomatch hm), List.Pairwise.nil⟩ (by rw [Heap.size_push]; exact Nat.le_refl _)
  rw [Heap.size_push] at ok
  rw [show ({ s with heap := s.heap.push { cls := .type "frame", data := .dict #[] } } : Shared).heap.objs.size = s.heap.objs.size + 1 from Heap.size_push .., cellsFrom_app scope.names _ cl]
  refine wpAny_bind (wpAny_bind_own (s₀ := s) (own := cellsFrom (s.heap.objs.size + 1) scope.names []) (env := newEnv scope s.heap.objs.size globals (cellsFrom (s.heap.objs.size + 1) scope.names [] ++ cl) qual func code none builtins)
    _ (fun _ _ _ => rfl) hk (fun n c h => by show (cellsFrom (s.heap.objs.size + 1) scope.names [] ++ cl).lookup n = some c; rw [List.lookup_append, h]; rfl) binds (fun _ => none) (fun _ => none) _ _
    ⟨⟨⟨_, _, rfl⟩, (Heap.Ns.new s.heap (.type "frame")).keeps (pushCells_keeps _ _), fun b o e => pushCells_keeps _ _ b o (Heap.get?_push_of_some _ e), Nat.le_refl _⟩,
      fun n c hc => (ok.empty n c (PySem.mem_of_lookup hc)).1, ok.apart, fun n c hm => (ok.empty n c hm).2⟩
    hkind fun s' x => wpAny_pure (hQ _ rfl s' x))
end
end LH

namespace LH
open PySem PySem.Spec PyProof.Rows L2 NdefX LamX
/-- a nested def's names: parameters (local or a cell of its own), captured ones, locals -/
structure NScC (N ps fr : List Str) (sc : Scope) : Prop where
  kind : sc.kind = .function
  co : sc.isCoroutine = false
  gen : sc.isGenerator = false
  nd : N.Nodup
  pre : N.take (ps.length + fr.length) = ps ++ fr
  par : ∀ x ∈ ps, sc.names.lookup x = some .local ∨ sc.names.lookup x = some .cell
  free : ∀ y ∈ sc.names, y.2 = .free → y.1 ∈ fr
  frk : ∀ x ∈ fr, sc.names.lookup x = some .free
  frn : ∀ x ∈ fr, (x, NameKind.cell) ∉ sc.names
def nscC (N ps fr : List Str) (sc : Scope) : Bool :=
  decide (sc.kind = .function) && !sc.isCoroutine && !sc.isGenerator && decide N.Nodup && decide (N.take (ps.length + fr.length) = ps ++ fr) && ps.all (fun x => decide (sc.names.lookup x = some .local) || decide (sc.names.lookup x = some .cell)) && sc.names.all (fun y => !decide (y.2 = .free) || decide (y.1 ∈ fr)) && fr.all (fun x => decide (sc.names.lookup x = some .free)) && fr.all (fun x => sc.names.all fun y => !(decide (y.1 = x) && decide (y.2 = .cell)))
theorem nscC_by {N ps fr : List Str} {sc : Scope} (h : nscC N ps fr sc = true) : NScC N ps fr sc := by
  unfold nscC at h
  simp only [Bool.and_eq_true, Bool.not_eq_true', decide_eq_true_eq, List.all_eq_true, Bool.or_eq_true, decide_eq_false_iff_not, Bool.and_eq_false_iff] at h
  obtain ⟨⟨⟨⟨⟨⟨⟨⟨h1, h2⟩, h3⟩, h4⟩, h5⟩, h6⟩, h7⟩, h8⟩, h9⟩ := h
  exact ⟨h1, h2, h3, h4, h5, h6, fun y hy e => (h7 y hy).elim (fun z => absurd e z) id, h8, fun x hx hm => (h9 x hx _ hm).elim (fun z => z rfl) fun z => z rfl⟩
abbrev ownC (F : NF) (L : Addr) : List (Str × Addr) := cellsFrom (L + 1) F.scope.names []
abbrev envFC (F : NF) (f L : Addr) : Env := PySem.W.envX F.qual F.scope L f (.ref F.c) (ownC F L ++ F.cl)
/-- the context of its body, at its entry -/
def ncxC (CX : CXT) (P : Program) (w : World) (K : PySem.W.Frag) (mg : Str → Option Value) (base : Heap) (N : List Str) (F : NF) (f : Addr) (A : Around) (outer : List Env) (s : Shared) (H : Hp) (E : XK) : Cx where
  prog := P
  w := w
  K := K
  mg := mg
  base := base
  A := A.deeper (envFC F f s.heap.objs.size)
  N := N
  s_0 := s
  H_0 := H
  env := envFC F f s.heap.objs.size
  outer := outer
  stack := envFC F f s.heap.objs.size :: outer
  ex := []
  calm := true
  fn := fun _ => false
  pn := []
  xe := fun e s' => wpAny (model P w) (A.deeper (envFC F f s.heap.objs.size)) (leaving (envFC F f s.heap.objs.size) e) (fun _ s'' => CX outer H s E e s'') (fun e' s'' => CX outer H s E e' s'') s'
section
variable {CX : CXT} {P : Program} {w : World} {K : PySem.W.Frag} {mg : Str → Option Value} {base : Heap} {N ps fr : List Str} {F : NF} {f : Addr} {A : Around} {outer : List Env} {s s1 : Shared} {H : Hp} {E : XK} {us : List Value} {vs : List V} {ws : List (Option V)}
theorem inv_startC (S : NScC N ps fr F.scope) (hd : A.handled = none) (e0 : Env0 P w K mg base A outer s H) (hl : vs.length = ps.length) (r : Vals vs us) (C : CellsAt F.cl fr ws s.heap H)
    (x : InCallC s s.heap.objs.size (bindL (envFC F f s.heap.objs.size).kindOf (ps.zip us) fun _ => none) (ownC F s.heap.objs.size) (bindC (envFC F f s.heap.objs.size).kindOf (ps.zip us) fun _ => none) s1) :
    Inv (ncxC CX P w K mg base N F f A outer s H E) [] (startF N vs ws) H s1 := by
  have hpl : ps.length + fr.length ≤ N.length := by
    have q := congrArg List.length S.pre
    rw [List.length_take, List.length_append] at q
    omega
  obtain ⟨h1, tk, rfl, kp⟩ := x.done
  have noA : ∀ b : Addr, b ∉ (ncxC CX P w K mg base N F f A outer s H E).ex := fun b z => absurd (show b ∈ ([] : List Addr) from z) (by simp)
  have cellK : ∀ {c : Addr} {v : Option Value}, s.heap.IsCell c v → h1.IsCell c v := fun {c v} ⟨o, ho, hd⟩ => ⟨o, kp _ _ ho, hd⟩
  have lo : ∀ {y : Str} {c : Addr}, (ownC F s.heap.objs.size).lookup y = some c → (ownC F s.heap.objs.size ++ F.cl).lookup y = some c := fun {y c} e => by rw [List.lookup_append, e]; rfl
  have lc : ∀ {y : Str} {c : Addr}, (ownC F s.heap.objs.size ++ F.cl).lookup y = some c → (ownC F s.heap.objs.size).lookup y = some c ∨ ((ownC F s.heap.objs.size).lookup y = none ∧ F.cl.lookup y = some c) := fun {y c} e => by
    rw [List.lookup_append] at e
    cases q : (ownC F s.heap.objs.size).lookup y with
    | none =>
      rw [q] at e
      exact .inr ⟨rfl, e⟩
    | some d =>
      rw [q] at e
      exact .inl e
  have lf : ∀ {y : Str} {c : Addr}, y ∈ fr → F.cl.lookup y = some c → (ownC F s.heap.objs.size ++ F.cl).lookup y = some c := fun {y c} hy e => by
    rw [List.lookup_append]
    cases q : (ownC F s.heap.objs.size).lookup y with
    | none => exact e
    | some d =>
      rcases mem_cellsFrom (PySem.mem_of_lookup q) with z | z
      · cases z
      · exact absurd z (S.frn y hy)
  have up : ∀ {y : Str} {c : Addr}, (ownC F s.heap.objs.size).lookup y = some c → s.heap.objs.size ≤ c := fun {y c} e => Nat.le_of_lt (x.above y c (PySem.mem_of_lookup e))
  have dn : ∀ {y : Str} {c : Addr}, F.cl.lookup y = some c → c < s.heap.objs.size := fun {y c} e => by
    obtain ⟨v, z⟩ := (C.all y c e).2
    exact z.lt
  refine ⟨⟨e0.mod, S.kind, rfl, rfl, Nat.le_refl _, fun y z c e1 e2 => ?_, fun y hy => ?_, fun y c z _ => ?_, fun _ => hd, Around.frames_deeper e0.frames, .inr ⟨rfl, rfl⟩, fun b z => absurd z (noA b), e0.bs, e0.bsz, fun b _ _ => noA b,
      fun b z => absurd z (noA b), e0.funs, e0.frf⟩,
    rfl, e0.bare, Un.kept kp, ⟨_, x.toInCall.ns, fun i y v e1 e2 e3 => ?_⟩, fun y c e => ?_, e0.hok.fresh (Nat.le_refl _), fun y c e => ?_, fun q hq => absurd (show q ∈ ([] : List (Addr × Obj)) ++ [] from hq) (by simp), e0.hok.kept kp, ?_⟩
  · rcases lc e1 with a | ⟨_, a⟩ <;> rcases lc e2 with b | ⟨_, b⟩
    · exact name_of_addr x.apart (PySem.mem_of_lookup a) (PySem.mem_of_lookup b)
    · exact absurd (up a) (Nat.not_le_of_lt (dn b))
    · exact absurd (up b) (Nat.not_le_of_lt (dn a))
    · exact C.inj y z c a b
  · have hy : F.scope.names.lookup y = some .cell ∨ F.scope.names.lookup y = some .free := hy
    rcases hy with hy | hy
    · obtain ⟨c, e⟩ := cell_has (n := s.heap.objs.size + 1) hy
      exact ⟨c, lo e⟩
    · have hf := S.free _ (PySem.mem_of_lookup hy) rfl
      obtain ⟨i, hi⟩ := List.mem_iff_getElem?.mp hf
      obtain ⟨c, hc, _⟩ := C.has i y hi
      exact ⟨c, lf hf hc⟩
  · have z : false = true := z
    cases z
  · have e1 : N[i]? = some y := e1
    have clen := C.len
    unfold startF at e2
    by_cases h1 : i < ps.length
    · have hq : (ps ++ fr)[i]? = some y := by
        rw [← S.pre, List.getElem?_take_of_lt (by omega)]
        exact e1
      rw [List.getElem?_append_left h1] at hq
      rw [List.getElem?_append_left (by rw [List.length_map]; omega), List.getElem?_map] at e2
      have ha : vs[i]? = some v := by
        cases e : vs[i]? with
        | none => rw [e] at e2; cases e2
        | some a => rw [e] at e2; cases e2; rfl
      obtain ⟨u, hu, rv⟩ := r.get ha
      have ndP : ps.Nodup := by
        have q := S.nd.sublist (List.take_sublist (ps.length + fr.length) N)
        rw [S.pre] at q
        exact (List.nodup_append.mp q).1
      refine ⟨u, rv, ?_⟩
      rcases S.par y (List.mem_of_getElem? hq) with k | k
      · exact .inl ⟨k, bindL_get ndP hq hu k⟩
      · obtain ⟨c, e⟩ := cell_has (n := s.heap.objs.size + 1) k
        refine .inr ⟨.inl k, c, lo e, ?_⟩
        have q := x.cell y c e
        rw [bindC_get ndP hq hu (by show F.scope.names.lookup y ≠ _; rw [k]; decide)] at q
        exact q
    · rw [List.getElem?_append_right (by rw [List.length_map]; omega), List.length_map] at e2
      by_cases h2 : i < ps.length + fr.length
      · have hq : (ps ++ fr)[i]? = some y := by
          rw [← S.pre, List.getElem?_take_of_lt (by omega)]
          exact e1
        rw [List.getElem?_append_right (by omega)] at hq
        rw [List.getElem?_append_left (by omega), hl] at e2
        obtain ⟨c, hc, hv⟩ := C.has (i - ps.length) y hq
        obtain ⟨u, ru, hu⟩ := hv v e2
        have hm := List.mem_of_getElem? hq
        exact ⟨u, ru, .inr ⟨.inr (S.frk y hm), c, lf hm hc, cellK hu⟩⟩
      · rw [List.getElem?_append_right (by omega), List.getElem?_replicate] at e2
        split at e2 <;> cases e2
  · rcases lc e with a | ⟨_, a⟩
    · exact ⟨_, x.cell y c a⟩
    · obtain ⟨v, z⟩ := (C.all y c a).2
      exact ⟨v, cellK z⟩
  · rcases lc e with a | ⟨_, a⟩
    · exact e0.hok.fresh (up a)
    · exact (C.all y c a).1
  · have clen := C.len
    unfold startF
    show _ = N.length
    rw [List.length_append, List.length_append, List.length_map, List.length_replicate]
    omega
end
section
variable {CX : CXT} {P : Program} {w : World} {K : PySem.W.Frag} {mg : Str → Option Value} {base : Heap} {N ps fr : List Str} {F : NF} {f : Addr} {k : Nat} {sp : List (Option V) → Sp}
/-- a nested def by its body, with cells of its own -/
theorem nok_ofC (S : NScC N ps fr F.scope) (hb : ∀ (doc pm ctv : Value) (us : List Value), us.length = ps.length → bindArgs (F.fd doc pm ctv) ⟨us, []⟩ = pure (ps.zip us)) (len : ∀ ws vs H Q E, sp ws vs H Q E → vs.length = ps.length)
    (hbody : ∀ (A : Around) (outer : List Env) (s : Shared) (H : Hp) (vs : List V) (ws : List (Option V)) (Q : VK) (E : XK), Room k (A.deeper (envFC F f s.heap.objs.size)) → H f = some (FnO f F) → H F.c = some (CodeO F.c F.qual) → ws.length = fr.length → sp ws vs H Q E →
      ∃ t, PSs (ncxC CX P w K mg base N F f A outer s H E) F.body t ∧ t { nx := fun _ H' => Q .non H', rt := Q } (startF N vs ws) H) :
    NOk P w K mg base CX (k + 1) f F ps fr sp := by
  refine ⟨len, fun A outer s H us vs ws Q E hr e0 hf hc C r hsp => ?_⟩
  have hl := len _ _ _ _ _ hsp
  have lim : s.heap.NoLimit := e0.mod.nolimit.keeps fun b o e => (e0.bs b o e).1
  obtain ⟨od, sl, doc, pm, ctv, ho⟩ := fnO_at e0.hok hf
  have hkind : ∀ y ∈ ps.zip us, F.scope.names.lookup y.1 = some .local ∨ (F.scope.names.lookup y.1 = some .cell ∧ ((cellsFrom (s.heap.objs.size + 1) F.scope.names []).lookup y.1).isSome = true) := fun ⟨n, v⟩ hy => by
    rcases S.par n (List.of_mem_zip hy).1 with q | q
    · exact .inl q
    · exact .inr ⟨q, PySem.W.cellsFrom_some _ _ _ (.inl q)⟩
  refine codeAny_call_function hr.depth ho rfl S.co S.gen rfl (codeO_at e0.hok hc) ?_
  rw [hb doc pm ctv us (by rw [← r.length]; exact hl)]
  refine wpAny_pure (wpAny_newFunctionEnv_own S.kind hkind fun env he s1 x => ?_)
  subst he
  refine ⟨lim.keeps x.toInCall.keep, codeAny_func ?_⟩
  obtain ⟨t, ht, hq⟩ := hbody A outer s H vs ws Q E (hr.deeper _) hf hc C.len hsp
  have I : Inv (ncxC CX P w K mg base N F f A outer s H E) [] (startF N vs ws) H s1 := inv_startC S hr.hd e0 hl r C x
  refine wpAny_mono (ht.run [] s1 (startF N vs ws) H _ I hq) (fun fl s' hs => ?_) fun e s' hs => hs
  have fin : ∀ {σ' : L2.St} {H' : Hp} {v : V} {u : Value}, Inv (ncxC CX P w K mg base N F f A outer s H E) [] σ' H' s' → L2.RelV v u → Q v H' → CE outer P w H s Q u s' :=
    fun {σ' H' v u} J rv q => ⟨v, H', J.os, J.bare, J.base, J.hok, rv, q⟩
  cases fl with
  | ret u =>
    obtain ⟨v, σ', H', J, rv, q⟩ := hs
    exact fin J rv q
  | next =>
    obtain ⟨σ', H', J, q⟩ := hs
    exact fin (v := V.non) (u := Value.none) J rfl q
  | brk =>
    obtain ⟨_, _, _, q⟩ := hs
    exact False.elim q
  | cont =>
    obtain ⟨_, _, _, q⟩ := hs
    exact False.elim q
end
end LH

namespace LH
open PySem PySem.Spec PyProof.Rows L2
/-! ### for sign, thing in zip(text, tuple) -/
def ItZ (K : PySem.W.Frag) (z : Str) (a : Addr) : It :=
  ⟨fun i H => ∃ (xs : List V) (x : V) (c : Nat), SqT K H a xs ∧ xs[i]? = some x ∧ z.cps[i]? = some c,
    fun i H v H' => ∃ T x c, v = .ref T ∧ H T = none ∧ H' = upd H T (.tup [.str ⟨#[c]⟩, x]) ∧ z.cps[i]? = some c ∧ ∀ xs, SqT K H a xs → xs[i]? = some x,
    fun i H => ∃ xs : List V, SqT K H a xs ∧ i = min z.cps.size xs.length⟩
theorem walk_Z {K : PySem.W.Frag} {z : Str} {a : Addr} {xs : List V} {n : Nat} (h1 : z.cps.size = n) (h2 : xs.length = n) : Walk (ItZ K z a) n (fun H => SqT K H a xs) (YPair (fun i => (z.cps[i]?).map fun c => .str ⟨#[c]⟩) (fun i => xs[i]?)) :=
  ⟨fun i _ hi q => ⟨xs, xs[i], z.cps[i], q, List.getElem?_eq_getElem (by omega), Array.getElem?_eq_getElem (by omega)⟩, fun _ q => ⟨xs, q, by omega⟩, fun i _ _ _ _ q ⟨T, x, c, a1, a2, a3, a4, a5⟩ => ⟨T, .str ⟨#[c]⟩, x, a1, a2, a3, by show Option.map _ (z.cps[i]?) = _; rw [a4]; rfl, a5 xs q⟩⟩
theorem turn_Z {P : Program} {w : World} {K : PySem.W.Frag} {elts : List Expr} {kk : Nat} {tpos : Pos} (z : Str) (t0 : Tok) (a zz TI TO i1 i2 : Addr) (S : ZipSep2 zz TI TO i1 i2 [i1] [i2, a]) (hai : a ≠ i2) :
    Turn P w K (.Tuple elts kk tpos) (ItZ K z a) [zz, TI, TO, i1, i2] zz (fun i h => IsZip h zz TI TO .none ∧ IsTupOf2 h TI (.ref i1) (.ref i2) ∧ (∃ a1 a2, IsTupOf2 h TO a1 a2) ∧ h.IsStrIter i1 (strIterType z) z t0 i ∧ h.IsTupleIter i2 a i) where
  mem := List.mem_cons_self
  obj := fun i h st b hb => by
    obtain ⟨h1, h2, ⟨x1, x2, h3⟩, ⟨o4, h4, _, d4⟩, ⟨o5, h5, _, d5⟩⟩ := st
    have e : b = zz ∨ b = TI ∨ b = TO ∨ b = i1 ∨ b = i2 := by simpa using hb
    rcases e with y | y | y | y | y
    · rw [y]
      exact ⟨_, h1, fun v q => nomatch q⟩
    · rw [y]
      exact ⟨_, h2, fun v q => nomatch q⟩
    · rw [y]
      exact ⟨_, h3, fun v q => nomatch q⟩
    · rw [y]
      exact ⟨o4, h4, fun v q => by rw [d4] at q; cases q⟩
    · rw [y]
      exact ⟨o5, h5, fun v q => by rw [d5] at q; cases q⟩
  keep := fun i h h' st k => by
    obtain ⟨h1, h2, ⟨x1, x2, h3⟩, h4, h5⟩ := st
    exact ⟨k zz (by simp) _ h1, k TI (by simp) _ h2, ⟨x1, x2, k TO (by simp) _ h3⟩, (let ⟨o, e, r⟩ := h4; ⟨o, k i1 (by simp) _ e, r⟩), (let ⟨o, e, r⟩ := h5; ⟨o, k i2 (by simp) _ e, r⟩)⟩
  item := by
    intro X hP hw hK hc i pins s σ H E I hf st hg
    subst hP hw hK
    obtain ⟨xs, x, c, sq, hx, hcz⟩ := hg
    obtain ⟨its, rv, pt, _⟩ := I.tuple sq
    have D := WalksT.zipD2 (prog := X.prog) (w := X.w) (A := X.A) S (Draws.text (A := X.A.in1) (I.ok.hd hc) i1 z t0) (Draws.tuple (A := X.A.in1) (I.ok.hd hc) i2 a hai its.toArray)
    obtain ⟨u, hu, ru⟩ := rv.get hx
    have lt : i < min z.cps.size its.toArray.size := by
      have q2 := (List.getElem?_eq_some_iff.mp hu).1
      exact Nat.lt_min.mpr ⟨(Array.getElem?_eq_some_iff.mp hcz).1, q2⟩
    obtain ⟨k1, k2, k3, k4, k5⟩ := st
    refine D.item i s _ _ lt ⟨k1, k2, k3, k4, k5, pt⟩ fun T vals h1 tk hv hT tup mid m1 => ?_
    obtain ⟨v1, v2, ⟨c', tt, hc', rfl⟩, hy, rfl⟩ := hv
    obtain rfl : c' = c := Option.some.inj (hc'.symm.trans hcz)
    obtain rfl : v2 = u := by
      have : its[i]? = some v2 := by simpa using hy
      exact Option.some.inj (this.symm.trans hu)
    refine ⟨_, rfl, D.go elts kk tpos i T _ _ _ mid fun h2 st2 m2 => ?_⟩
    have tup2 : h2.IsTuple T #[.str ⟨#[c']⟩ tt, v2] := tup.at fun o q => m2 T o (D.apart i T h1 mid) q
    have wr : ∀ b, b ∉ [zz, TI, TO, i1, i2] → b ∉ [zz, TO, i1, i2] := fun b hb z => hb (by
      simp only [List.mem_cons, List.not_mem_nil, or_false] at z ⊢
      rcases z with z | z | z | z
      · exact .inl z
      · exact .inr (.inr (.inl z))
      · exact .inr (.inr (.inr (.inl z)))
      · exact .inr (.inr (.inr (.inr z))))
    have I1 : Inv X pins σ (upd H T (.tup [.str ⟨#[c']⟩, x])) { s with heap := h2, toks := tk } :=
      I.turnedNew (ch := [zz, TI, TO, i1, i2]) (fun b o hb q => m2 b o (wr b hb) (m1 b o (wr b hb) q)) hf hT ⟨by show 2 ≤ sizeLine; decide, [.str ⟨#[c']⟩ tt, v2], .cons ⟨_, rfl⟩ (.cons ru .nil), tup2⟩
    obtain ⟨n1, n2, n3, n4, n5, _⟩ := st2
    refine ⟨.ref T, _, I1, rfl, ⟨T, x, c', rfl, I.hok.fresh hT, rfl, hcz, fun ys hy => by rw [I.tuple_inj hy sq]; exact hx⟩, ⟨n1, n2, n3, n4, n5⟩, fun b hb => ?_⟩
    have lb : b < s.heap.objs.size := by
      obtain ⟨x1, x2, k3⟩ := k3
      obtain ⟨o4, h4, _⟩ := k4
      obtain ⟨o5, h5, _⟩ := k5
      have e : b = zz ∨ b = TI ∨ b = TO ∨ b = i1 ∨ b = i2 := by simpa using hb
      rcases e with y | y | y | y | y
      · rw [y]; exact Heap.lt_size k1
      · rw [y]; exact Heap.lt_size k2
      · rw [y]; exact Heap.lt_size k3
      · rw [y]; exact Heap.lt_size h4
      · rw [y]; exact Heap.lt_size h5
    rw [upd_ne (Nat.ne_of_lt (Nat.lt_of_lt_of_le lb hT))]
    exact (hf b hb).1
  done := by
    intro X hP hw hK hc i pins s σ H E I hf st hg
    subst hP hw hK
    obtain ⟨xs, sq, hx⟩ := hg
    obtain ⟨its, rv, pt, _⟩ := I.tuple sq
    have D := WalksT.zipD2 (prog := X.prog) (w := X.w) (A := X.A) S (Draws.text (A := X.A.in1) (I.ok.hd hc) i1 z t0) (Draws.tuple (A := X.A.in1) (I.ok.hd hc) i2 a hai its.toArray)
    have en : min z.cps.size its.toArray.size = i := by
      rw [hx, rv.length]
      rfl
    rw [← en] at st
    obtain ⟨k1, k2, k3, k4, k5⟩ := st
    refine D.done s _ _ ⟨k1, k2, k3, k4, k5, pt⟩ fun h1 tk m1 => ⟨rfl, I.turnedL (ch := [zz, TI, TO, i1, i2]) (fun b o hb q => m1 b o (fun z => hb ?_) q) hf⟩
    simp only [List.mem_cons, List.not_mem_nil, or_false] at z ⊢
    rcases z with z | z | z | z
    · exact .inl z
    · exact .inr (.inr (.inl z))
    · exact .inr (.inr (.inr (.inl z)))
    · exact .inr (.inr (.inr (.inr z)))
  self := fun A i s Q E st hQ => wpAny_pyIter_zip st.1 hQ
theorem ne_a {a b : Nat} (h : a < b ∨ b < a) : (a : Addr) ≠ (b : Addr) := fun e => by
  have e : a = b := e
  omega
theorem nin1 {x y : Addr} (h : x ≠ y) : x ∉ [y] := fun z => h (List.mem_singleton.mp z)
theorem nin2 {x y a : Addr} (h : x ≠ y) (k : x ≠ a) : x ∉ [y, a] := fun z => (List.mem_cons.mp z).elim h fun z => k (List.mem_singleton.mp z)
theorem sep_nat (N a : Nat) (h : a < N) : ZipSep2 (N + 4) (N + 2) (N + 3) N (N + 1) [N] [N + 1, a] :=
  ⟨ne_a (by omega), ne_a (by omega), ne_a (by omega), ne_a (by omega), List.mem_cons_self, nin1 (ne_a (by omega)), nin1 (ne_a (by omega)), ne_a (by omega), List.mem_cons_self, nin2 (ne_a (by omega)) (ne_a (by omega)), nin2 (ne_a (by omega)) (ne_a (by omega)), nin2 (ne_a (by omega)) (ne_a (by omega)), nin1 (ne_a (by omega))⟩
theorem le_nat (N b : Nat) (h : (b : Addr) ∈ ([N + 4, N + 2, N + 3, N, N + 1] : List Addr)) : N ≤ b := by
  have e : b = N + 4 ∨ b = N + 2 ∨ b = N + 3 ∨ b = N ∨ b = N + 1 := by
    rcases List.mem_cons.mp h with z | h
    · exact .inl z
    rcases List.mem_cons.mp h with z | h
    · exact .inr (.inl z)
    rcases List.mem_cons.mp h with z | h
    · exact .inr (.inr (.inl z))
    rcases List.mem_cons.mp h with z | h
    · exact .inr (.inr (.inr (.inl z)))
    · exact .inr (.inr (.inr (.inr (List.mem_singleton.mp h))))
  omega
theorem ne_nat (N a : Nat) (h : a < N) : (a : Addr) ≠ N + 1 := ne_a (by omega)
def iZipZ (K : PySem.W.Frag) (ta : TA) : TI := fun σ H R => ta σ H fun vs H1 => ∃ (z : Str) (a : Addr) (xs : List V), vs = [.str z, .ref a] ∧ SqT K H1 a xs ∧ R (ItZ K z a) H1
theorem pi_zipZ {X : Cx} (K : PySem.W.Frag) (hK : X.K = K) {e e2 : Expr} {ta : TA} {p pos tpos : Pos} {elts : List Expr} {kk : Nat} (hg : Gl X "zip") (hm : X.mg "zip" = none) (ha : PA X [e, e2] ta)
    (hs : starEach [e, e2] X.env = (false, eval e X.env) :: starEach [e2] X.env := by rfl) (hpl : (backTo pos (starEach [e2] X.env)).any (·.1) = false := by rfl) : PI X (.Tuple elts kk tpos) (.Call (.Name "zip" p) [e, e2] [] pos) (iZipZ K ta) := by
  subst hK
  refine ⟨fun pins s σ H R I h => ?_⟩
  refine Call_ (ld_blt I hg hm PyProof.Rows.boot_zip (PyProof.Rows.callWith_type1 (thn (ha.run pos pins s σ H _ I h) fun ws s2 ⟨vs, H2, I2, r2, q2⟩ => ?_) hs hpl))
  obtain ⟨z, a, xs, ex, sq, q⟩ := q2
  subst ex
  obtain ⟨u1, u2, rfl, ⟨t, rfl⟩, ra⟩ := r2.two
  obtain rfl : u2 = Value.ref a := ra
  obtain ⟨its, rv, pt, _⟩ := I2.tuple sq
  have la : a < s2.heap.objs.size := by
    have ⟨o, ho, _⟩ := pt
    exact Heap.lt_size ho
  refine zip_begins2 (begins_text z t) (begins_tuple a its.toArray) trivial pt fun h' hz hTI hTO h1 h2 _ hk => wpAny_pyIter_zip hz ?_
  have I3 : Inv X pins σ H2 { s2 with heap := h' } := I2.kept (t' := s2.toks) hk
  refine ⟨s2.heap.objs.size + 4, [s2.heap.objs.size + 4, s2.heap.objs.size + 2, s2.heap.objs.size + 3, s2.heap.objs.size, s2.heap.objs.size + 1], _, _, H2, rfl, I3, turn_Z z t a _ _ _ _ _ (sep_nat s2.heap.objs.size a la) (ne_nat s2.heap.objs.size a la), ⟨hz, hTI, ⟨_, _, hTO⟩, ⟨_, h1, rfl, rfl⟩, ⟨_, h2, rfl, rfl⟩⟩, fun b hb => ?_, q⟩
  have le := le_nat s2.heap.objs.size b hb
  exact I2.fpOk le (I2.hok.fresh le)
end LH

namespace LH
open PySem PySem.Spec PyProof.Rows L2
/-! ### list[::k], k one or minus one -/
theorem kpick1 (items : Array Value) : slicePick items none none (some 1) = items.toList.toArray := by
  show slicePick items none none none = _
  rw [slicePick_all, Array.toArray_toList]
def tStepL (K : PySem.W.Frag) (te ts : TE) : TE := fun σ H Q => te σ H fun x H1 => ts σ H1 fun y H2 => ∃ (a : Addr) (xs : List V) (k : Int), x = .ref a ∧ y = .int k ∧ SqL K H2 a xs ∧ (k = 1 ∨ k = -1) ∧ ∀ p, H2 p = none → Q (.ref p) (upd H2 p (.lst (if k = 1 then xs else xs.reverse)))
theorem pe_stepL {X : Cx} (K : PySem.W.Frag) (hK : X.K = K) {e f : Expr} {te ts : TE} {p3 pos : Pos} (he : PE X e te) (hf : PE X f ts) : PE X (.Subscript e (.Slice none none (some f) p3) pos) (tStepL K te ts) := by
  subst hK
  refine ⟨fun pins s σ H Q I h => ?_⟩
  refine Subscript_ (thn (he.run pins s σ H _ I h) fun v s1 ⟨x, H1, I1, r1, q1⟩ => ?_)
  refine wpAny_Slice (thn (po_none.run pins s1 σ H1 (fun o H2 => o = none ∧ H2 = H1) I1 ⟨rfl, rfl⟩) fun vl s2 ⟨l, H2, I2, pl, el, e2⟩ => ?_)
  subst el e2
  refine thn (po_none.run pins s2 σ H2 (fun o H3 => o = none ∧ H3 = H2) I2 ⟨rfl, rfl⟩) fun vu s3 ⟨u, H3, I3, pu, eu, e3⟩ => ?_
  subst eu e3
  rw [evalPart_some]
  refine thn (hf.run pins s3 σ H3 _ I3 q1) fun vs s4 ⟨y, H4, I4, r4, q4⟩ => ?_
  obtain ⟨a, xs, k, ex, ey, hx, hk, q⟩ := q4
  subst ex ey
  cases r1
  obtain ⟨tk, rfl⟩ := r4
  have I5 : Inv X pins σ H4 { s4 with heap := s4.heap.push { cls := .type "slice", data := .fields #[vl, vu, .int k tk] } } := I4.kept (t' := s4.toks) fun b ob q => Heap.get?_push_of_some _ q
  obtain ⟨its, r, ht, hz⟩ := I5.list hx
  have hlen := r.length
  show wpAny (model X.prog X.w) X.A (subscriptTail e (.Slice none none (some f) p3) (.ref a) (.ref s4.heap.objs.size)) (EP X pins σ Q) X.xe { s4 with heap := s4.heap.push { cls := .type "slice", data := .fields #[vl, vu, .int k tk] } }
  refine tail_any (ops := [.ref a, .ref s4.heap.objs.size]) ht.isList.typeIs (PySem.slot_list_getitem.lookup) ?_ (by with_unfolding_all rfl)
  refine wpAny_getItem_list_slice ht.isList (Heap.IsSliceOf.new _ vl vu (.int k tk)) pl pu (.int k tk) (by rcases hk with rfl | rfl <;> decide) ?_ (by rw [List.size_toArray]; omega)
  rcases hk with rfl | rfl
  · rw [kpick1]
    refine ⟨.ref _, _, I5.laid (t' := s4.toks) (o := .lst xs) (fun b ob q => Heap.get?_push_of_some _ q) (Nat.le_refl _) ?_, rfl, q _ (I5.hok.fresh (Nat.le_refl _))⟩
    exact ⟨hz, its, 0, r, Heap.get?_push_size _ rfl⟩
  · rw [PySem.W.krv_pick]
    refine ⟨.ref _, _, I5.laid (t' := s4.toks) (o := .lst xs.reverse) (fun b ob q => Heap.get?_push_of_some _ q) (Nat.le_refl _) ?_, rfl, q _ (I5.hok.fresh (Nat.le_refl _))⟩
    exact ⟨by rw [List.length_reverse]; exact hz, _, 0, r.reverse, Heap.get?_push_size _ rfl⟩
/-! ### for k in a dict that has just been made: it stays locked -/
def iKeysN (td : TE) : TI := fun σ H R => td σ H fun x H1 => ∃ d kvs, x = .ref d ∧ H1 d = some (.dK kvs) ∧ ∀ o, R (Itk d o kvs) (upd H1 d (.frz o (.dK kvs)))
theorem pi_keysN {X : Cx} {tg e : Expr} {td : TE} (he : PE X e td) : PI X tg e (iKeysN td) := by
  refine ⟨fun pins s σ H R I h => ?_⟩
  refine thn (he.run pins s σ H _ I h) fun u s1 ⟨x, H1, I1, rx, d, kvs, ex, hd, q⟩ => ?_
  subst ex
  obtain rfl : u = Value.ref d := rx
  obtain ⟨od, I2⟩ := I1.lock hd trivial
  obtain ⟨hs, hgd, hx, es, ep, vs, hdt, hsz, kv, hm⟩ := I2.frzK upd_same
  refine iter_keys hs hgd hx hdt (pi_one (tk := s1.toks) I2 _ (turn_keys _ hdt) ⟨_, Heap.get?_push_size _ rfl, rfl, ?_⟩ (q od))
  rw [hsz] <;> rfl
end LH

namespace LH
open PySem PySem.Spec PyProof.Rows L2
/-! ### list(enumerate(list)) -/
/-- an iterator I whose items go into the list at S: what is known after i items vs; the counter of what is made may go on -/
structure WkT (prog : Program) (w : World) (A : Around) (I S : Addr) (n : Nat) (kp : Addr → Prop) (St : Nat → List Value → Heap → Prop) (Fi : List Value → Heap → Prop) : Prop where
  frame : ∀ i vs h h', St i vs h → h.objs.size ≤ h'.objs.size → (∀ b o, b ≠ S → h.get? b = some o → h'.get? b = some o) → St i vs h'
  item : ∀ i vs (s : Shared) (Q : Option Value → Shared → Prop) (E : Value → Shared → Prop), i < n → St i vs s.heap →
    (∀ v h' tk, St (i + 1) (vs ++ [v]) h' → (∀ b o, kp b → s.heap.get? b = some o → h'.get? b = some o) → Q (some v) { s with heap := h', toks := tk }) → wpAny (model prog w) A (pyNext (.ref I)) Q E s
  done : ∀ vs (s : Shared) (Q : Option Value → Shared → Prop) (E : Value → Shared → Prop), St n vs s.heap → (∀ h', Fi vs h' → (∀ b o, kp b → s.heap.get? b = some o → h'.get? b = some o) → Q none { s with heap := h' }) → wpAny (model prog w) A (pyNext (.ref I)) Q E s
  self : ∀ vs (s : Shared) (Q : Value → Shared → Prop) (E : Value → Shared → Prop), St 0 vs s.heap → Q (.ref I) s → wpAny (model prog w) A (pyIter (.ref I)) Q E s
section
variable {prog : Program} {w : World} {A : Around} {s : Shared} {I S : Addr} {n : Nat} {kp : Addr → Prop} {St : Nat → List Value → Heap → Prop} {Fi : List Value → Heap → Prop}
theorem loopT {R : Result → Shared → Prop} (W : WkT prog w A.in1 I S n kp St Fi) (kS : kp S) (hn : n ≤ sizeLine) (res : Value) {h₁ : Heap}
    (hR : ∀ h' tk acc c, (∀ b o, b ≠ S → kp b → h₁.get? b = some o → h'.get? b = some o) → h'.get? S = some { cls := .type "list", dict := none, data := .seq acc c, slots := #[] } → Fi acc.toList h' → acc.size = n → R (.ok (.ret res)) { s with heap := h', toks := tk }) :
    ∀ (k i : Nat) (h : Heap) (tk c : Nat) (acc : Array Value), n - i = k → i ≤ n → St i acc.toList h → acc.size = i → (∀ b o, b ≠ S → kp b → h₁.get? b = some o → h.get? b = some o) →
      h.get? S = some { cls := .type "list", dict := none, data := .seq acc c, slots := #[] } →
      codeAny (model prog w) A (.builtin "list.extend.loop" ⟨[.ref S, .ref I, res], []⟩) R { s with heap := h, toks := tk } := by
  intro k
  induction k with
  | zero =>
    intro i h tk c acc hk hi hst hsz hkeep hS
    obtain rfl : i = n := by omega
    refine codeAny_builtin F.entry_extend_loop ?_
    rw [Around.under_plainId F.plain_extend_loop _]
    show wpAny _ A.in1 (pyNext (.ref I) >>= _) _ _ _
    refine wpAny_bind (W.done acc.toList { s with heap := h, toks := tk } _ _ hst fun h' fi kp' => ?_)
    exact wpAny_pure (hR h' tk acc c (fun b o h1 h2 e => kp' b o h2 (hkeep b o h1 h2 e)) (kp' S _ kS hS) fi hsz)
  | succ k ih =>
    intro i h tk c acc hk hi hst hsz hkeep hS
    have hlt : i < n := by omega
    refine codeAny_builtin F.entry_extend_loop ?_
    rw [Around.under_plainId F.plain_extend_loop _]
    show wpAny _ A.in1 (pyNext (.ref I) >>= _) _ _ _
    refine wpAny_bind (W.item i acc.toList { s with heap := h, toks := tk } _ _ hlt hst fun v h' tk' st' kp' => ?_)
    dsimp only at kp' ⊢
    have hS' := kp' S _ kS hS
    have up : ∀ b o, b ≠ S → h'.get? b = some o → (h'.update S (Obj.mapSeq (·.push v))).get? b = some o := fun b o hb e => (Heap.get?_update_other _ _ (Ne.symm hb)).trans e
    show wpAny _ A.in1 (updateSeq S (·.push v) >>= _) _ _ _
    refine wpAny_bind ?_
    refine wpAny_updateSeq hS' rfl (wpAny_pure ⟨plainId_quiet F.plain_extend_loop _, ih (i + 1) _ tk' _ (acc.push v) (by omega) hlt ?_ (by rw [Array.size_push, hsz])
      (fun b o h1 h2 e => up b o h1 (kp' b o h2 (hkeep b o h1 h2 e))) (Heap.get?_update_self _ hS' rfl)⟩) (by rw [hsz]; omega) (by show (acc.push v).size ≤ sizeLine + 1; rw [Array.size_push, hsz]; omega)
    rw [Array.toList_push]
    exact W.frame _ _ h' _ st' (by rw [Heap.size_update]; exact Nat.le_refl _) up
end
section
variable {prog : Program} {w : World} {A : Around} {E : Value → Shared → Prop} {s : Shared} {I : Addr} {n : Nat} {kp : Addr → Prop} {St : Nat → List Value → Heap → Prop} {Fi : List Value → Heap → Prop}
theorem list_T {T : String} {Q : Value → Shared → Prop} (hl : typeLookup (.type T) "__len__" = pure none) (hn0 : typeLookup (.type T) "__length_hint__" = pure none)
    (t2 : (Value.type T == Value.type "list") = false) (t3 : (Value.type T == Value.type "tuple") = false)
    (W : WkT prog w A.in1.in1 I s.heap.objs.size n kp St Fi) (kS : kp s.heap.objs.size) (hT : ∀ i vs (s : Shared), St i vs s.heap → s.TypeIs (.ref I) T) (hst : ∀ o, St 0 [] (s.heap.push o)) (hI : I < s.heap.objs.size)
    (hQ : ∀ h' tk acc c, (∀ b o, kp b → s.heap.get? b = some o → h'.get? b = some o) → h'.get? s.heap.objs.size = some { cls := .type "list", dict := none, data := .seq acc c, slots := #[] } → Fi acc.toList h' → acc.size = n → Q (.ref s.heap.objs.size) { s with heap := h', toks := tk }) (hn : n ≤ sizeLine) :
    wpAny (model prog w) A (call (.type "list") [.ref I]) Q E s := by
  have hSI : s.heap.objs.size ≠ I := Nat.ne_of_gt hI
  refine callType_codes (Q₁ := fun obj s₁ => obj = .ref s.heap.objs.size ∧ s₁ = { s with heap := s.heap.push { cls := .type "list", data := .seq #[] } }) F.called_list (F.typeCall_list_1 _) F.entry_list_init
    (code_list_new _ ⟨rfl, rfl⟩) fun obj s₁ h₁ => ?_
  obtain ⟨rfl, rfl⟩ := h₁
  have hS : (s.heap.push { cls := .type "list", data := .seq #[] }).get? s.heap.objs.size = some { cls := .type "list", data := .seq #[] } := Heap.get?_push_size _ rfl
  have st0 := hst { cls := .type "list", data := .seq #[] }
  refine ⟨⟨_, hS, rfl⟩, F.args_list_init_2 _ _, ?_⟩
  show wpAny _ A.in1.in1 (do let old ← Builtin.List.listItems (.ref s.heap.objs.size); Builtin.List.listUpdate (.ref s.heap.objs.size) (fun _ => #[]); letGo old.toList.reverse; Builtin.List.listExtendWith (.ref s.heap.objs.size) (.ref I) .none) _ _ _
  refine wpAny_bind ?_
  unfold Builtin.List.listItems
  refine wpAny_bind (wpAny_seqItems hS rfl (wpAny_pure ?_))
  show wpAny _ A.in1.in1 (updateSeq s.heap.objs.size (fun _ => #[]) >>= fun _ => letGo (#[] : Array Value).toList.reverse >>= fun _ => Builtin.List.listExtendWith (.ref s.heap.objs.size) (.ref I) .none) _ _ _
  refine wpAny_bind (wpAny_updateSeq hS rfl ?_)
  have hS2 := Heap.get?_update_self (Obj.mapSeq (fun _ => (#[] : Array Value))) hS rfl
  have up : ∀ (h : Heap) (f : Obj → Obj) b o, b ≠ s.heap.objs.size → h.get? b = some o → (h.update s.heap.objs.size f).get? b = some o := fun h f b o hb e => (Heap.get?_update_other _ _ (Ne.symm hb)).trans e
  have st1 := W.frame _ _ _ ((s.heap.push { cls := .type "list", data := .seq #[] }).update s.heap.objs.size (Obj.mapSeq (fun _ => (#[] : Array Value)))) st0 (by rw [Heap.size_update]; exact Nat.le_refl _) (up _ _)
  have k1 : ∀ b o, b ≠ s.heap.objs.size → kp b → s.heap.get? b = some o → ((s.heap.push { cls := .type "list", data := .seq #[] }).update s.heap.objs.size (Obj.mapSeq (fun _ => (#[] : Array Value)))).get? b = some o := fun b o hb _ e => up _ _ b o hb (Heap.get?_push_of_some _ e)
  refine wpAny_bind (wpAny_letGo ?_)
  unfold Builtin.List.listExtendWith
  refine wpAny_bind (wpAny_typeOf (T := T) (hT 0 [] { s with heap := _ } st1) ?_)
  have t1 : Builtin.List.listSameRef (.ref s.heap.objs.size) (.ref I) = false := by simp [Builtin.List.listSameRef, hSI]
  simp only [t1, t2, t3, Bool.or_false, Bool.false_eq_true, if_false]
  refine wpAny_bind (W.self [] _ _ _ st1 ?_)
  refine wpAny_bind (wpAny_holding ?_)
  unfold Builtin.List.listLengthHint
  refine wpAny_bind (wpAny_specialOf (hT 0 [] { s with heap := _ } st1) hl ?_)
  show wpAny _ A.in1.in1 (specialOf (Value.ref I) (Str.ofString "__length_hint__") >>= _) _ _ _
  refine wpAny_bind (wpAny_specialOf (hT 0 [] { s with heap := _ } st1) hn0 ?_)
  refine wpAny_pure ?_
  show wpAny _ A.in1.in1 (rule "list.extend.makes-room" >>= fun _ => Builtin.List.listTouch (.ref s.heap.objs.size) >>= fun _ =>
    again (.builtin "list.extend.loop" ⟨[.ref s.heap.objs.size, .ref I, .none], []⟩)) _ _ _
  refine wpAny_bind (wpAny_rule ?_)
  refine wpAny_bind ?_
  show wpAny _ A.in1.in1 (updateSeq s.heap.objs.size (·.push .none) >>= fun _ => updateSeq s.heap.objs.size (·.pop)) _ _ _
  refine wpAny_bind (wpAny_updateSeq hS2 rfl ?_)
  have hS3 := Heap.get?_update_self (Obj.mapSeq (·.push Value.none)) hS2 rfl
  refine wpAny_updateSeq (hz := by seq_fits) hS3 rfl ?_
  have hS4 := Heap.get?_update_self (Obj.mapSeq (·.pop)) hS3 rfl
  refine wpAny_pure ⟨plainId_quiet F.plain_extend_loop _, loopT (s := s) (R := wants (fun r s₂ => r = Value.none ∧ Q (.ref s.heap.objs.size) s₂) E) (h₁ := s.heap) W kS hn .none (fun h' tk acc c kk hS' fi hz => ⟨rfl, hQ h' tk acc c (fun b o kb e => kk b o (Nat.ne_of_lt (Heap.lt_size e)) kb e) hS' fi hz⟩) n 0 _ s.toks _ #[] (Nat.sub_zero _) (Nat.zero_le _) ?_ rfl ?_ hS4⟩
  · exact W.frame _ _ _ _ st1 (by simp only [Heap.size_update]; exact Nat.le_refl _) fun b o hb e => up _ _ b o hb (up _ _ b o hb e)
  · exact fun b o hb kb e => up _ _ b o hb (up _ _ b o hb (k1 b o hb kb e))
end
abbrev IsTwo (h : Heap) (t : Addr) (x y : Value) : Prop := h.get? t = some { cls := .type "tuple", data := .seq #[x, y] }
def PrsE (xs : Array Value) (lo : Nat) (ts : List Nat) (h : Heap) : Prop := ∀ (j : Nat) (t : Nat), ts[j]? = some t → lo ≤ t ∧ ∃ x tk, xs[j]? = some x ∧ IsTwo h t (.int (j : Nat) tk) x
def ESt (e it l lo : Nat) (xs : Array Value) : Nat → List Value → Heap → Prop := fun i vs h =>
  lo ≤ h.objs.size ∧ h.IsListIter it l i ∧ h.IsList l xs ∧
  ∃ ts : List Nat, vs = ts.map Value.ref ∧ ts.length = i ∧ ts.Nodup ∧ PrsE xs lo ts h ∧
    ((i = 0 ∧ IsEnum h e it ((0 : Nat) : Int) .none) ∨ ∃ (T : Nat) (f : Bool) (x : Value), IsEnumHeld h e it ((i : Nat) : Int) x T f ∧ T ∈ ts)
def EFi (lo : Nat) (xs : Array Value) : List Value → Heap → Prop := fun vs h => ∃ ts : List Nat, vs = ts.map Value.ref ∧ ts.Nodup ∧ PrsE xs lo ts h
theorem walk_en {prog : Program} {w : World} {A : Around} {e it l S lo : Nat} {xs : Array Value} (hh : A.handled = none) (hei : @Ne Nat e it) (hle : @Ne Nat l e) (hli : @Ne Nat l it)
    (b1 : e < lo) (b2 : it < lo) (b6 : S < lo) (n1 : @Ne Nat e S) (n2 : @Ne Nat it S) (n6 : @Ne Nat l S) :
    WkT prog w A e S xs.size (fun b => b ≠ e ∧ b ≠ it) (ESt e it l lo xs) (EFi lo xs) where
  frame := fun i vs h h' ⟨a1, a3, a5, ts, a7, a8, a9, a10, a11⟩ hs k => by
    refine ⟨Nat.le_trans a1 hs, a3.at fun o q => k _ o n2 q, a5.at fun o q => k _ o n6 q, ts, a7, a8, a9, fun j t hj => ?_, ?_⟩
    · obtain ⟨c1, x, tk, c2, c4⟩ := a10 j t hj
      exact ⟨c1, x, tk, c2, k _ _ (by show @Ne Nat _ _; omega) c4⟩
    · rcases a11 with ⟨c1, c2⟩ | ⟨T, f, x, c1, c2⟩
      · exact .inl ⟨c1, k _ _ n1 c2⟩
      · exact .inr ⟨T, f, x, k _ _ n1 c1, c2⟩
  item := fun i vs s Q E hi ⟨a1, a3, a5, ts, a7, a8, a9, a10, a11⟩ hQ => by
    have hx : xs[i]? = some xs[i] := Array.getElem?_eq_getElem hi
    generalize xs[i] = x at hx
    have old : ∀ t : Nat, t ∈ ts → lo ≤ t ∧ t < s.heap.objs.size := fun t ht => by
      obtain ⟨j, hj⟩ := List.mem_iff_getElem?.mp ht
      obtain ⟨c1, _, _, _, c4⟩ := a10 j t hj
      exact ⟨c1, Heap.lt_size c4⟩
    have nd : (ts ++ [s.heap.objs.size]).Nodup := List.nodup_append.mpr ⟨a9, by simp, fun t ht u hu q => by
      rw [List.mem_singleton.mp hu] at q
      have := (old t ht).2
      omega⟩
    have prs : ∀ h' : Heap, IsTwo h' s.heap.objs.size (.int (i : Nat) s.toks) x → (∀ c o, c ≠ e → c ≠ it → s.heap.get? c = some o → h'.get? c = some o) → PrsE xs lo (ts ++ [s.heap.objs.size]) h' := fun h' hp hk j t hj => by
      by_cases hl : j < ts.length
      · rw [List.getElem?_append_left hl] at hj
        obtain ⟨c1, x', tk', c2, c4⟩ := a10 j t hj
        exact ⟨c1, x', tk', c2, hk _ _ (by show @Ne Nat _ _; omega) (by show @Ne Nat _ _; omega) c4⟩
      · rw [List.getElem?_append_right (by omega)] at hj
        have e0 : j - ts.length = 0 := by
          cases q : j - ts.length with
          | zero => rfl
          | succ k =>
            rw [q] at hj
            simp at hj
        rw [e0] at hj
        cases hj
        have ej : j = i := by omega
        subst ej
        exact ⟨a1, x, _, hx, hp⟩
    have e1 : vs ++ [Value.ref s.heap.objs.size] = (ts ++ [s.heap.objs.size]).map Value.ref := by
      rw [a7, List.map_append]
      rfl
    have e2 : (ts ++ [s.heap.objs.size]).length = i + 1 := by
      rw [List.length_append, a8]
      rfl
    rcases a11 with ⟨c1, c2⟩ | ⟨T, f, y, c1, c2⟩
    · have c2 : IsEnum s.heap e it ((i : Nat) : Int) .none := by
        rw [c1]
        exact c2
      refine wpAny_pyNext_enum_item c2 a3 a5 hx hei fun h' z' h1' hT hsz hk => ?_
      exact hQ _ h' _ ⟨by omega, h1', a5.at fun o q => hk _ o hle hli q, ts ++ [s.heap.objs.size], e1, e2, nd, prs h' hT hk, .inr ⟨s.heap.objs.size, false, x, z', List.mem_append_right _ (List.mem_singleton.mpr rfl)⟩⟩ fun b o kb q => hk b o kb.1 kb.2 q
    · obtain ⟨j, hj⟩ := List.mem_iff_getElem?.mp c2
      obtain ⟨lo1, _, _, _, c4⟩ := a10 j T hj
      refine wpAny_pyNext_enum_item_held c1 c4 (by show @Ne Nat _ _; omega) (by show @Ne Nat _ _; omega) a3 a5 hx hei fun h' z' h1' hT hsz hk => ?_
      exact hQ _ h' _ ⟨by omega, h1', a5.at fun o q => hk _ o hle hli q, ts ++ [s.heap.objs.size], e1, e2, nd, prs h' hT hk, .inr ⟨T, true, y, z', List.mem_append_left _ c2⟩⟩ fun b o kb q => hk b o kb.1 kb.2 q
  done := fun vs s Q E ⟨a1, a3, a5, ts, a7, a8, a9, a10, a11⟩ hQ => by
    have hx : xs[xs.size]? = none := Array.getElem?_eq_none (Nat.le_refl _)
    have prs : ∀ h' : Heap, (∀ c o, c ≠ it → s.heap.get? c = some o → h'.get? c = some o) → PrsE xs lo ts h' := fun h' hk j t hj => by
      obtain ⟨c1, x', tk', c2, c4⟩ := a10 j t hj
      exact ⟨c1, x', tk', c2, hk _ _ (by show @Ne Nat _ _; omega) c4⟩
    rcases a11 with ⟨c1, c2⟩ | ⟨T, f, y, c1, c2⟩
    · have c2 : IsEnum s.heap e it ((xs.size : Nat) : Int) .none := by
        rw [c1]
        exact c2
      exact wpAny_pyNext_enum_end hh c2 a3 a5 hx fun h' hk => hQ h' ⟨ts, a7, a9, prs h' fun c o n q => hk c o n q⟩ fun b o kb q => hk b o kb.2 q
    · exact wpAny_pyNext_enum_end_held hh c1 a3 a5 hx fun h' hk => hQ h' ⟨ts, a7, a9, prs h' fun c o n q => hk c o n q⟩ fun b o kb q => hk b o kb.2 q
  self := fun vs s Q E ⟨_, _, _, ts, _, a8, _, _, a11⟩ h => by
    rcases a11 with ⟨c1, c2⟩ | ⟨T, f, y, c1, c2⟩
    · exact wpAny_pyIter_enum c2 h
    · rw [List.length_eq_zero_iff.mp a8] at c2
      exact absurd c2 (by simp)
theorem en_type {e it l lo : Nat} {xs : Array Value} (i : Nat) (vs : List Value) (s : Shared) (h : ESt e it l lo xs i vs s.heap) : s.TypeIs (.ref e) "enumerate" := by
  obtain ⟨_, _, _, ts, _, _, _, _, a11⟩ := h
  rcases a11 with ⟨c1, c2⟩ | ⟨T, f, y, c1, c2⟩
  · exact ⟨_, c2, rfl⟩
  · exact ⟨_, c1, rfl⟩
theorem enum_nolen : typeLookup (.type "enumerate") "__len__" = pure none := by rw [typeLookup_type, builtinLookup_eq_fast]; kernel_rfl
theorem enum_nohint : typeLookup (.type "enumerate") "__length_hint__" = pure none := by rw [typeLookup_type, builtinLookup_eq_fast]; kernel_rfl
/-- the parts of a row, each with its place -/
def PrE (H : Hp) (xs : List V) (bas : List Addr) : Prop := bas.length = xs.length ∧ ∀ (j : Nat) (c : Addr), bas[j]? = some c → ∃ x, xs[j]? = some x ∧ H c = some (.tup [.int (j : Nat), x])
def tListEnum (K : PySem.W.Frag) (ta : TA) : TE := fun σ H Q => ta σ H fun vs H1 => ∃ (a : Addr) (xs : List V), vs = [.ref a] ∧ SqL K H1 a xs ∧
  ∀ (H' : Hp) (p : Addr) (bas : List Addr), Same H1 H' → H1 p = none → H' p = some (.lst (bas.map V.ref)) → PrE H' xs bas → Q (.ref p) H'
theorem pe_listEnum {X : Cx} {e : Expr} {ta : TA} {p p2 q pos : Pos} (K : PySem.W.Frag) (hK : X.K = K) (hg : Gl X "list") (hm : X.mg "list" = none) (hg2 : Gl X "enumerate") (hm2 : X.mg "enumerate" = none) (ha : PA X [e] ta) (hc : X.calm = true := by rfl)
    (hs : starEach [e] X.env = [(false, eval e X.env)] := by rfl) : PE X (.Call (.Name "list" p) [.Call (.Name "enumerate" p2) [e] [] q] [] pos) (tListEnum K ta) := by
  subst hK
  refine ⟨fun pins s σ H Q I h => ?_⟩
  refine Call_ (ld_blt I hg hm boot_list ?_)
  refine callWith_type1 (args_cons ?_ rfl) rfl rfl
  refine Call_ (ld_blt I hg2 hm2 boot_enumerate ?_)
  refine callWith_type1 (thn (ha.run q pins s σ H _ I h) fun us s1 ⟨vs, H1, I1, r1, q1⟩ => ?_) hs rfl
  obtain ⟨a, xs, rfl, hqx, q1⟩ := q1
  rw [Vals.ref1 r1]
  obtain ⟨its, rv, p1, hz1⟩ := I1.list hqx
  have la : @LT.lt Nat _ a s1.heap.objs.size := by
    obtain ⟨o, ho, _⟩ := p1.isList
    exact Heap.lt_size ho
  have l1 := rv.length
  refine call_enumerate_list p1.isList fun h' he hi hsz hk => ?_
  refine args_nil ?_
  have hh : X.A.handled = none := I1.ok.hd hc
  have W := walk_en (prog := X.prog) (w := X.w) (A := X.A.in1.in1) (e := s1.heap.objs.size + 1) (it := s1.heap.objs.size) (l := a) (S := h'.objs.size) (lo := h'.objs.size + 1) (xs := its.toArray) hh (by omega) (by omega) (by omega) (by omega) (by omega) (by omega) (by omega) (by omega) (by omega)
  refine list_T (s := { s1 with heap := h' }) enum_nolen enum_nohint (by decide) (by decide) W ⟨by show @Ne Nat _ _; show @Ne Nat h'.objs.size _; omega, by show @Ne Nat h'.objs.size _; omega⟩ (fun i vs s st => en_type i vs s st) (fun o => ?_) (by show @LT.lt Nat _ _ h'.objs.size; omega) (fun h2 tk acc c kk hS fi hn => ?_) (by rw [List.size_toArray, ← l1]; exact hz1)
  · exact ⟨by show _ ≤ (h'.push o).objs.size; rw [Heap.size_push]; exact Nat.le_refl _, hi.at fun o q => Heap.get?_push_of_some _ q, p1.isList.at fun o q => Heap.get?_push_of_some _ (hk _ _ q), [], rfl, rfl, List.nodup_nil, fun j t hj => by simp at hj, .inl ⟨rfl, Heap.get?_push_of_some _ he⟩⟩
  · obtain ⟨ts, ea, nd, prs⟩ := fi
    dsimp only at kk hS
    have up : ∀ b o, s1.heap.get? b = some o → h2.get? b = some o := fun b o q => by
      have : @LT.lt Nat _ b s1.heap.objs.size := Heap.lt_size q
      exact kk b o ⟨by show @Ne Nat _ _; omega, by show @Ne Nat _ _; omega⟩ (hk b o q)
    have hts : ts.length = xs.length := by
      have : acc.toList.length = ts.length := by rw [ea, List.length_map]
      rw [Array.length_toList, hn, List.size_toArray] at this
      omega
    have I2 : Inv X pins σ (upd H1 h'.objs.size (.lst (ts.map V.ref))) { s1 with heap := h2, toks := tk } := I1.laid (t' := tk) (a := h'.objs.size) (o := .lst (ts.map V.ref)) up (by show @LE.le Nat _ _ _; omega) ⟨by rw [List.length_map, hts]; exact hz1, acc.toList, c, by rw [ea]; exact vals_refs ts, by rw [Array.toArray_toList]; exact hS⟩
    have fS : H1 h'.objs.size = none := I1.hok.fresh (by show @LE.le Nat _ _ _; omega)
    obtain ⟨H2, I3, g, trk⟩ := L2.DX.takeT (P := fun c vs => ∀ j, ts[j]? = some c → ∃ x, xs[j]? = some x ∧ vs = [.int (j : Nat), x]) I1 ts _ I2 nd fun c hc => by
      obtain ⟨j, hj⟩ := List.mem_iff_getElem?.mp hc
      obtain ⟨hlo, u, tk2, hu, hp⟩ := prs j c hj
      obtain ⟨x, hx, rx⟩ := L2.DX.pget rv (by simpa using hu)
      refine ⟨by show @LE.le Nat _ _ _; omega, by rw [upd_ne (by show @Ne Nat _ _; omega)]; exact I1.hok.fresh (by show @LE.le Nat _ _ _; omega), [.int (j : Nat), x], fun j' hj' => ?_, fun H2 => ⟨by show 2 ≤ sizeLine; decide, [.int (j : Nat) tk2, u], .cons ⟨_, rfl⟩ (.cons rx .nil), ⟨_, hp, rfl, _, rfl⟩⟩⟩
      have ej : j' = j := by
        have d1 := (List.getElem?_eq_some_iff.mp hj').1
        have d2 := (List.getElem?_eq_some_iff.mp hj).1
        exact (List.getElem_inj nd).mp (by rw [(List.getElem?_eq_some_iff.mp hj').2, (List.getElem?_eq_some_iff.mp hj).2])
      subst ej
      exact ⟨x, hx, rfl⟩
    refine ⟨.ref h'.objs.size, H2, I3, rfl, q1 H2 h'.objs.size ts (fun b o q => g b o (by rw [upd_ne (ne_of_none q fS)]; exact q)) fS (g _ _ upd_same) ⟨hts, fun j c hj => ?_⟩⟩
    obtain ⟨vs, hv, q⟩ := trk c (List.mem_of_getElem? hj)
    obtain ⟨x, hx, rfl⟩ := hv j hj
    exact ⟨x, hx, q⟩
end LH

namespace LH
open PySem PySem.Spec PyProof.Rows L2
/-! ### for sign, thing in zip(text, list) -/
def ItZL (K : PySem.W.Frag) (z : Str) (a : Addr) : It :=
  ⟨fun i H => ∃ (xs : List V) (x : V) (c : Nat), SqL K H a xs ∧ xs[i]? = some x ∧ z.cps[i]? = some c,
    fun i H v H' => ∃ T x c, v = .ref T ∧ H T = none ∧ H' = upd H T (.tup [.str ⟨#[c]⟩, x]) ∧ z.cps[i]? = some c ∧ ∀ xs, SqL K H a xs → xs[i]? = some x,
    fun i H => ∃ xs : List V, SqL K H a xs ∧ i = min z.cps.size xs.length⟩
theorem walk_ZL {K : PySem.W.Frag} {z : Str} {a : Addr} {xs : List V} {n : Nat} (h1 : z.cps.size = n) (h2 : xs.length = n) : Walk (ItZL K z a) n (fun H => SqL K H a xs) (YPair (fun i => (z.cps[i]?).map fun c => .str ⟨#[c]⟩) (fun i => xs[i]?)) :=
  ⟨fun i _ hi q => ⟨xs, xs[i], z.cps[i], q, List.getElem?_eq_getElem (by omega), Array.getElem?_eq_getElem (by omega)⟩, fun _ q => ⟨xs, q, by omega⟩, fun i _ _ _ _ q ⟨T, x, c, a1, a2, a3, a4, a5⟩ => ⟨T, .str ⟨#[c]⟩, x, a1, a2, a3, by show Option.map _ (z.cps[i]?) = _; rw [a4]; rfl, a5 xs q⟩⟩
theorem turn_ZL {P : Program} {w : World} {K : PySem.W.Frag} {elts : List Expr} {kk : Nat} {tpos : Pos} (z : Str) (t0 : Tok) (a zz TI TO i1 i2 : Addr) (S : ZipSep2 zz TI TO i1 i2 [i1] [i2, a]) (hai : a ≠ i2) :
    Turn P w K (.Tuple elts kk tpos) (ItZL K z a) [zz, TI, TO, i1, i2] zz (fun i h => IsZip h zz TI TO .none ∧ IsTupOf2 h TI (.ref i1) (.ref i2) ∧ (∃ a1 a2, IsTupOf2 h TO a1 a2) ∧ h.IsStrIter i1 (strIterType z) z t0 i ∧ h.IsListIter i2 a i) where
  mem := List.mem_cons_self
  obj := fun i h st b hb => by
    obtain ⟨h1, h2, ⟨x1, x2, h3⟩, ⟨o4, h4, _, d4⟩, ⟨o5, h5, _, d5⟩⟩ := st
    have e : b = zz ∨ b = TI ∨ b = TO ∨ b = i1 ∨ b = i2 := by simpa using hb
    rcases e with y | y | y | y | y
    · rw [y]
      exact ⟨_, h1, fun v q => nomatch q⟩
    · rw [y]
      exact ⟨_, h2, fun v q => nomatch q⟩
    · rw [y]
      exact ⟨_, h3, fun v q => nomatch q⟩
    · rw [y]
      exact ⟨o4, h4, fun v q => by rw [d4] at q; cases q⟩
    · rw [y]
      exact ⟨o5, h5, fun v q => by rw [d5] at q; cases q⟩
  keep := fun i h h' st k => by
    obtain ⟨h1, h2, ⟨x1, x2, h3⟩, h4, h5⟩ := st
    exact ⟨k zz (by simp) _ h1, k TI (by simp) _ h2, ⟨x1, x2, k TO (by simp) _ h3⟩, (let ⟨o, e, r⟩ := h4; ⟨o, k i1 (by simp) _ e, r⟩), (let ⟨o, e, r⟩ := h5; ⟨o, k i2 (by simp) _ e, r⟩)⟩
  item := by
    intro X hP hw hK hc i pins s σ H E I hf st hg
    subst hP hw hK
    obtain ⟨xs, x, c, sq, hx, hcz⟩ := hg
    obtain ⟨its, rv, pt, _⟩ := I.list sq
    have D := WalksT.zipD2 (prog := X.prog) (w := X.w) (A := X.A) S (Draws.text (A := X.A.in1) (I.ok.hd hc) i1 z t0) (Draws.list (A := X.A.in1) (I.ok.hd hc) i2 a hai its.toArray)
    obtain ⟨u, hu, ru⟩ := rv.get hx
    have lt : i < min z.cps.size its.toArray.size := by
      have q2 := (List.getElem?_eq_some_iff.mp hu).1
      exact Nat.lt_min.mpr ⟨(Array.getElem?_eq_some_iff.mp hcz).1, q2⟩
    obtain ⟨k1, k2, k3, k4, k5⟩ := st
    refine D.item i s _ _ lt ⟨k1, k2, k3, k4, k5, pt.isList⟩ fun T vals h1 tk hv hT tup mid m1 => ?_
    obtain ⟨v1, v2, ⟨c', tt, hc', rfl⟩, hy, rfl⟩ := hv
    obtain rfl : c' = c := Option.some.inj (hc'.symm.trans hcz)
    obtain rfl : v2 = u := by
      have : its[i]? = some v2 := by simpa using hy
      exact Option.some.inj (this.symm.trans hu)
    refine ⟨_, rfl, D.go elts kk tpos i T _ _ _ mid fun h2 st2 m2 => ?_⟩
    have tup2 : h2.IsTuple T #[.str ⟨#[c']⟩ tt, v2] := tup.at fun o q => m2 T o (D.apart i T h1 mid) q
    have wr : ∀ b, b ∉ [zz, TI, TO, i1, i2] → b ∉ [zz, TO, i1, i2] := fun b hb z => hb (by
      simp only [List.mem_cons, List.not_mem_nil, or_false] at z ⊢
      rcases z with z | z | z | z
      · exact .inl z
      · exact .inr (.inr (.inl z))
      · exact .inr (.inr (.inr (.inl z)))
      · exact .inr (.inr (.inr (.inr z))))
    have I1 : Inv X pins σ (upd H T (.tup [.str ⟨#[c']⟩, x])) { s with heap := h2, toks := tk } :=
      I.turnedNew (ch := [zz, TI, TO, i1, i2]) (fun b o hb q => m2 b o (wr b hb) (m1 b o (wr b hb) q)) hf hT ⟨by show 2 ≤ sizeLine; decide, [.str ⟨#[c']⟩ tt, v2], .cons ⟨_, rfl⟩ (.cons ru .nil), tup2⟩
    obtain ⟨n1, n2, n3, n4, n5, _⟩ := st2
    refine ⟨.ref T, _, I1, rfl, ⟨T, x, c', rfl, I.hok.fresh hT, rfl, hcz, fun ys hy => by rw [I.list_inj hy sq]; exact hx⟩, ⟨n1, n2, n3, n4, n5⟩, fun b hb => ?_⟩
    have lb : b < s.heap.objs.size := by
      obtain ⟨x1, x2, k3⟩ := k3
      obtain ⟨o4, h4, _⟩ := k4
      obtain ⟨o5, h5, _⟩ := k5
      have e : b = zz ∨ b = TI ∨ b = TO ∨ b = i1 ∨ b = i2 := by simpa using hb
      rcases e with y | y | y | y | y
      · rw [y]; exact Heap.lt_size k1
      · rw [y]; exact Heap.lt_size k2
      · rw [y]; exact Heap.lt_size k3
      · rw [y]; exact Heap.lt_size h4
      · rw [y]; exact Heap.lt_size h5
    rw [upd_ne (Nat.ne_of_lt (Nat.lt_of_lt_of_le lb hT))]
    exact (hf b hb).1
  done := by
    intro X hP hw hK hc i pins s σ H E I hf st hg
    subst hP hw hK
    obtain ⟨xs, sq, hx⟩ := hg
    obtain ⟨its, rv, pt, _⟩ := I.list sq
    have D := WalksT.zipD2 (prog := X.prog) (w := X.w) (A := X.A) S (Draws.text (A := X.A.in1) (I.ok.hd hc) i1 z t0) (Draws.list (A := X.A.in1) (I.ok.hd hc) i2 a hai its.toArray)
    have en : min z.cps.size its.toArray.size = i := by
      rw [hx, rv.length]
      rfl
    rw [← en] at st
    obtain ⟨k1, k2, k3, k4, k5⟩ := st
    refine D.done s _ _ ⟨k1, k2, k3, k4, k5, pt.isList⟩ fun h1 tk m1 => ⟨rfl, I.turnedL (ch := [zz, TI, TO, i1, i2]) (fun b o hb q => m1 b o (fun z => hb ?_) q) hf⟩
    simp only [List.mem_cons, List.not_mem_nil, or_false] at z ⊢
    rcases z with z | z | z | z
    · exact .inl z
    · exact .inr (.inr (.inl z))
    · exact .inr (.inr (.inr (.inl z)))
    · exact .inr (.inr (.inr (.inr z)))
  self := fun A i s Q E st hQ => wpAny_pyIter_zip st.1 hQ
theorem ne_aL {a b : Nat} (h : a < b ∨ b < a) : (a : Addr) ≠ (b : Addr) := fun e => by
  have e : a = b := e
  omega
theorem nin1L {x y : Addr} (h : x ≠ y) : x ∉ [y] := fun z => h (List.mem_singleton.mp z)
theorem nin2L {x y a : Addr} (h : x ≠ y) (k : x ≠ a) : x ∉ [y, a] := fun z => (List.mem_cons.mp z).elim h fun z => k (List.mem_singleton.mp z)
theorem sep_natL (N a : Nat) (h : a < N) : ZipSep2 (N + 4) (N + 2) (N + 3) N (N + 1) [N] [N + 1, a] :=
  ⟨ne_aL (by omega), ne_aL (by omega), ne_aL (by omega), ne_aL (by omega), List.mem_cons_self, nin1L (ne_aL (by omega)), nin1L (ne_aL (by omega)), ne_aL (by omega), List.mem_cons_self, nin2L (ne_aL (by omega)) (ne_aL (by omega)), nin2L (ne_aL (by omega)) (ne_aL (by omega)), nin2L (ne_aL (by omega)) (ne_aL (by omega)), nin1L (ne_aL (by omega))⟩
theorem le_natL (N b : Nat) (h : (b : Addr) ∈ ([N + 4, N + 2, N + 3, N, N + 1] : List Addr)) : N ≤ b := by
  have e : b = N + 4 ∨ b = N + 2 ∨ b = N + 3 ∨ b = N ∨ b = N + 1 := by
    rcases List.mem_cons.mp h with z | h
    · exact .inl z
    rcases List.mem_cons.mp h with z | h
    · exact .inr (.inl z)
    rcases List.mem_cons.mp h with z | h
    · exact .inr (.inr (.inl z))
    rcases List.mem_cons.mp h with z | h
    · exact .inr (.inr (.inr (.inl z)))
    · exact .inr (.inr (.inr (.inr (List.mem_singleton.mp h))))
  omega
theorem ne_natL (N a : Nat) (h : a < N) : (a : Addr) ≠ N + 1 := ne_aL (by omega)
def iZipZL (K : PySem.W.Frag) (ta : TA) : TI := fun σ H R => ta σ H fun vs H1 => ∃ (z : Str) (a : Addr) (xs : List V), vs = [.str z, .ref a] ∧ SqL K H1 a xs ∧ R (ItZL K z a) H1
theorem pi_zipZL {X : Cx} (K : PySem.W.Frag) (hK : X.K = K) {e e2 : Expr} {ta : TA} {p pos tpos : Pos} {elts : List Expr} {kk : Nat} (hg : Gl X "zip") (hm : X.mg "zip" = none) (ha : PA X [e, e2] ta)
    (hs : starEach [e, e2] X.env = (false, eval e X.env) :: starEach [e2] X.env := by rfl) (hpl : (backTo pos (starEach [e2] X.env)).any (·.1) = false := by rfl) : PI X (.Tuple elts kk tpos) (.Call (.Name "zip" p) [e, e2] [] pos) (iZipZL K ta) := by
  subst hK
  refine ⟨fun pins s σ H R I h => ?_⟩
  refine Call_ (ld_blt I hg hm PyProof.Rows.boot_zip (PyProof.Rows.callWith_type1 (thn (ha.run pos pins s σ H _ I h) fun ws s2 ⟨vs, H2, I2, r2, q2⟩ => ?_) hs hpl))
  obtain ⟨z, a, xs, ex, sq, q⟩ := q2
  subst ex
  obtain ⟨u1, u2, rfl, ⟨t, rfl⟩, ra⟩ := r2.two
  obtain rfl : u2 = Value.ref a := ra
  obtain ⟨its, rv, pt, _⟩ := I2.list sq
  have la : a < s2.heap.objs.size := by
    have ⟨o, ho, _⟩ := pt.isList
    exact Heap.lt_size ho
  refine zip_begins2 (begins_text z t) (begins_list a its.toArray) trivial pt.isList fun h' hz hTI hTO h1 h2 _ hk => wpAny_pyIter_zip hz ?_
  have I3 : Inv X pins σ H2 { s2 with heap := h' } := I2.kept (t' := s2.toks) hk
  refine ⟨s2.heap.objs.size + 4, [s2.heap.objs.size + 4, s2.heap.objs.size + 2, s2.heap.objs.size + 3, s2.heap.objs.size, s2.heap.objs.size + 1], _, _, H2, rfl, I3, turn_ZL z t a _ _ _ _ _ (sep_natL s2.heap.objs.size a la) (ne_natL s2.heap.objs.size a la), ⟨hz, hTI, ⟨_, _, hTO⟩, ⟨_, h1, rfl, rfl⟩, ⟨_, h2, rfl, rfl⟩⟩, fun b hb => ?_, q⟩
  have le := le_natL s2.heap.objs.size b hb
  exact I2.fpOk le (I2.hok.fresh le)
end LH

namespace LH
open PySem PySem.Spec PyProof.Rows L2
/-! ### sorted(list of pairs of a number and a text) -/
/-- a pair as data -/
def dNT (k : V → Int × Str) (v : V) : PyData := .tuple [.int (k v).1, .str (k v).2]
def leNT (k : V → Int × Str) : V → V → Bool := PySem.W.dataLe false (dNT k)
theorem leNT_eq (k : V → Int × Str) (a b : V) : leNT k a b = decide ((k a).1 < (k b).1 ∨ ((k a).1 = (k b).1 ∧ (k a).2.cps.toList ≤ (k b).2.cps.toList)) := by
  show (!PySem.W.dataLt (dNT k b) (dNT k a)) = _
  unfold dNT
  rw [PySem.W.dataLt_pair (by simp [PySem.W.alike]) (by simp [PySem.W.alike]), PySem.W.dataLt_int, PySem.W.dataLt_str]
  simp only [PyData.eqv, beq_iff_eq]
  by_cases h : (k b).1 = (k a).1
  · rw [if_pos h, h]
    by_cases e : (k b).2 = (k a).2
    · rw [if_pos e, e]
      simp
    · rw [if_neg e, PySem.W.not_lt_str]
      simp
  · rw [if_neg h]
    have h' : ¬ (k a).1 = (k b).1 := fun z => h z.symm
    simp only [h', false_and, or_false]
    rw [PySem.W.not_lt_int]
    by_cases q : (k a).1 < (k b).1
    · rw [decide_eq_true q, decide_eq_true (by omega)]
    · rw [decide_eq_false q, decide_eq_false (by omega)]
theorem each_vals {W : Value → V → Prop} : ∀ {xs : List V} {us : List Value}, Vals xs us → (∀ u x, x ∈ xs → RelV x u → W u x) → PySem.W.EachIs W us xs
  | _, _, .nil, _ => .nil
  | _, _, .cons h t, q => .cons (q _ _ List.mem_cons_self h) (each_vals t fun u x hx r => q u x (List.mem_cons_of_mem _ hx) r)
theorem vals_each : ∀ {xs : List V} {us : List Value}, PySem.W.EachIs (fun u x => RelV x u) us xs → Vals xs us
  | _, _, .nil => .nil
  | _, _, .cons h t => .cons h (vals_each t)
section
variable {X : Cx} (K : PySem.W.Frag) (hK : X.K = K)
include hK
theorem call_sortedN (hu : X.A.units + 64 < cLine) : CallR X (.builtin "sorted") (fun vs H Q => ∃ (a : Addr) (xs : List V) (k : V → Int × Str), vs = [.ref a] ∧ SqL K H a xs ∧ (∀ x ∈ xs, ∃ t, x = V.ref t ∧ H t = some (.tup [.int (k x).1, .str (k x).2])) ∧
    ∀ p, H p = none → Q (.ref p) (upd H p (.lst (xs.mergeSort (leNT k))))) := by
  subst hK
  intro pins s σ H vs us Q I r h
  obtain ⟨a, xs, k, rfl, hs, hx, q⟩ := h
  obtain ⟨its, rv, hl, hz⟩ := I.list hs
  obtain ⟨u, rfl, ru⟩ := vals1 r
  obtain rfl : u = Value.ref a := ru
  have e1 : PySem.W.EachIs (fun u x => RelV x u) its xs := each_vals rv fun _ _ _ h => h
  have e2 : PySem.W.EachIs (fun v b => ∃ as, Reads s.heap v (dNT k b) as) its xs := each_vals rv fun u x hxm h => by
    obtain ⟨t, rfl, ht⟩ := hx x hxm
    obtain rfl : u = Value.ref t := h
    obtain ⟨_, its2, r2, o, ho, hc, n, hd⟩ := I.hok _ _ ht
    obtain ⟨u1, u2, rfl, ri, rj⟩ := vals2 r2
    obtain ⟨t1, rfl⟩ := ri
    obtain ⟨t2, rfl⟩ := rj
    exact ⟨_, .tuple ho hc hd (.cons (.int _ _) (.cons (.str _ _) .nil))⟩
  refine PySem.W.sorted_data (R := fun u x => RelV x u) (enc := dNT k) hl.isList e1 e2 (PySem.W.AllAlike.of fun b b' => by simp [dNT, PySem.W.alike, PySem.W.alikeAll]) (PySem.W.Sortable.tuples fun b => ⟨_, _, rfl⟩) hz (fun b _ => ?_) fun out ho eo => ?_
  · have : (dNT k b).depth = 1 := by
      unfold dNT
      simp [PyData.depth, PyData.depthAll]
    omega
  · obtain ⟨e, he⟩ := PyProof.Rows.sortedAll_at s.heap its out.toArray
    have fr : H (s.heap.objs.size + 1) = none := I.hok.fresh (Nat.le_succ _)
    refine ⟨.ref (s.heap.objs.size + 1), upd H (s.heap.objs.size + 1) (.lst (xs.mergeSort (leNT k))), ?_, rfl, q _ fr⟩
    refine I.laid (t' := s.toks) (fun b o hb => PyProof.Rows.sortedAll_old hb) (Nat.le_succ _) (show ObjOk X.prog X.w _ _ _ (.lst (xs.mergeSort (leNT k))) from ⟨?_, out, e, vals_each eo, he⟩)
    rw [List.length_mergeSort]
    exact hz
end
end LH

namespace LH
open PySem PySem.Spec PyProof.Rows L2
def topS (i : Nat) : Stmt := PySem.Challenge.pw_likehands_k60_whole_views_put_together.main.body.getD i (.Pass ⟨0, 0, 0, 0⟩)
abbrev s_built : Stmt := topS 1
abbrev N_built : List Str := ["letters", "start", "follow", "is_end", "keys", "table", "ended", "key"]
theorem sc_built : FnScope N_built ["letters", "start", "follow", "is_end"] (defScope s_built) := ⟨rfl, rfl, rfl, by decide +kernel, rfl, by decide +kernel, by decide +kernel⟩
abbrev s_walked : Stmt := topS 2
abbrev N_walked : List Str := ["start", "follow", "numbers", "keys", "table", "row", "behind", "key"]
theorem sc_walked : FnScope N_walked ["start", "follow"] (defScope s_walked) := ⟨rfl, rfl, rfl, by decide +kernel, rfl, by decide +kernel, by decide +kernel⟩
abbrev s_parted : Stmt := topS 3
abbrev N_parted : List Str := ["table", "ended", "groups", "homes", "number", "members", "state", "backs", "at", "targets", "back", "hits", "home", "row"]
theorem sc_parted : FnScope N_parted ["table", "ended"] (defScope s_parted) := ⟨rfl, rfl, rfl, by decide +kernel, rfl, by decide +kernel, by decide +kernel⟩
abbrev s_first_groups : Stmt := topS 4
abbrev N_first_groups : List Str := ["ended", "stops", "others", "state", "stop", "group"]
theorem sc_first_groups : FnScope N_first_groups ["ended"] (defScope s_first_groups) := ⟨rfl, rfl, rfl, by decide +kernel, rfl, by decide +kernel, by decide +kernel⟩
abbrev s_ways_back : Stmt := topS 5
abbrev N_ways_back : List Str := ["table", "backs", "state", "row", "column", "target"]
theorem sc_ways_back : FnScope N_ways_back ["table"] (defScope s_ways_back) := ⟨rfl, rfl, rfl, by decide +kernel, rfl, by decide +kernel, by decide +kernel⟩
abbrev s_hits_of : Stmt := topS 6
abbrev N_hits_of : List Str := ["back", "targets", "homes", "hits", "target", "state", "home"]
theorem sc_hits_of : FnScope N_hits_of ["back", "targets", "homes"] (defScope s_hits_of) := ⟨rfl, rfl, rfl, by decide +kernel, rfl, by decide +kernel, by decide +kernel⟩
abbrev s_split_group : Stmt := topS 7
abbrev N_split_group : List Str := ["groups", "homes", "home", "hit", "members", "moved", "state", "kept"]
theorem sc_split_group : FnScope N_split_group ["groups", "homes", "home", "hit"] (defScope s_split_group) := ⟨rfl, rfl, rfl, by decide +kernel, rfl, by decide +kernel, by decide +kernel⟩
abbrev s_merged : Stmt := topS 8
abbrev N_merged : List Str := ["letters", "table", "ended", "homes", "numbers", "heads", "state", "home", "rows", "ends", "head", "target", "number"]
theorem sc_merged : FnScope N_merged ["letters", "table", "ended", "homes"] (defScope s_merged) := ⟨rfl, rfl, rfl, by decide +kernel, rfl, by decide +kernel, by decide +kernel⟩
abbrev s_useful_ways : Stmt := topS 9
abbrev N_useful_ways : List Str := ["starts", "moves", "is_end", "keys", "rows", "ended", "leads", "numbers", "old", "width", "ways", "firsts", "key", "column", "to"]
theorem sc_useful_ways : FnScope N_useful_ways ["starts", "moves", "is_end"] (defScope s_useful_ways) := ⟨rfl, rfl, rfl, by decide +kernel, rfl, by decide +kernel, by decide +kernel⟩
abbrev s_explored : Stmt := topS 10
abbrev N_explored : List Str := ["starts", "moves", "keys", "numbers", "rows", "row", "behind", "group", "key", "number"]
theorem sc_explored : FnScope N_explored ["starts", "moves"] (defScope s_explored) := ⟨rfl, rfl, rfl, by decide +kernel, rfl, by decide +kernel, by decide +kernel⟩
abbrev s_leading : Stmt := topS 11
abbrev N_leading : List Str := ["rows", "ended", "back", "number", "row", "group", "target", "leads", "found", "stop"]
theorem sc_leading : FnScope N_leading ["rows", "ended"] (defScope s_leading) := ⟨rfl, rfl, rfl, by decide +kernel, rfl, by decide +kernel, by decide +kernel⟩
abbrev s_unseen : Stmt := topS 12
abbrev N_unseen : List Str := ["lists", "seen", "fresh", "keys", "key"]
theorem sc_unseen : FnScope N_unseen ["lists", "seen"] (defScope s_unseen) := ⟨rfl, rfl, rfl, by decide +kernel, rfl, by decide +kernel, by decide +kernel⟩
abbrev s_both : Stmt := topS 14
abbrev N_both : List Str := ["one", "other"]
theorem sc_both : FnScope N_both ["one", "other"] (defScope s_both) := ⟨rfl, rfl, rfl, by decide +kernel, rfl, by decide +kernel, by decide +kernel⟩
abbrev s_either : Stmt := topS 15
abbrev N_either : List Str := ["one", "other"]
theorem sc_either : FnScope N_either ["one", "other"] (defScope s_either) := ⟨rfl, rfl, rfl, by decide +kernel, rfl, by decide +kernel, by decide +kernel⟩
abbrev s_paired : Stmt := topS 16
abbrev N_paired : List Str := ["one", "other", "wanted", "first_marks", "second_marks", "first_table", "second_table", "follow", "is_end"]
theorem sc_paired : FnScope N_paired ["one", "other", "wanted"] (defScope s_paired) := ⟨rfl, rfl, rfl, by decide +kernel, rfl, by decide +kernel, by decide +kernel⟩
abbrev s_end_marks : Stmt := topS 17
abbrev N_end_marks : List Str := ["machine", "letters", "table", "ends", "marks", "state", "row"]
theorem sc_end_marks : FnScope N_end_marks ["machine"] (defScope s_end_marks) := ⟨rfl, rfl, rfl, by decide +kernel, rfl, by decide +kernel, by decide +kernel⟩
abbrev s_ways_of : Stmt := topS 18
abbrev N_ways_of : List Str := ["machine", "letters", "table", "ends", "marks", "moves", "is_end"]
theorem sc_ways_of : FnScope N_ways_of ["machine"] (defScope s_ways_of) := ⟨rfl, rfl, rfl, by decide +kernel, rfl, by decide +kernel, by decide +kernel⟩
abbrev s_views_of : Stmt := topS 20
abbrev N_views_of : List Str := ["machine", "size", "firsts", "ways", "ended"]
theorem sc_views_of : FnScope N_views_of ["machine", "size"] (defScope s_views_of) := ⟨rfl, rfl, rfl, by decide +kernel, rfl, by decide +kernel, by decide +kernel⟩
abbrev s_views_of_ways : Stmt := topS 21
abbrev N_views_of_ways : List Str := ["letters", "ways", "size", "many", "nexts", "views", "newest", "turn", "longer", "view", "held", "letter", "column", "reached", "number", "target"]
theorem sc_views_of_ways : FnScope N_views_of_ways ["letters", "ways", "size"] (defScope s_views_of_ways) := ⟨rfl, rfl, rfl, by decide +kernel, rfl, by decide +kernel, by decide +kernel⟩
abbrev s_spread : Stmt := topS 22
abbrev N_spread : List Str := ["lists", "nexts", "seen", "found", "at", "fresh"]
theorem sc_spread : FnScope N_spread ["lists", "nexts"] (defScope s_spread) := ⟨rfl, rfl, rfl, by decide +kernel, rfl, by decide +kernel, by decide +kernel⟩
abbrev s_view_machine : Stmt := topS 23
abbrev N_view_machine : List Str := ["letters", "views", "size", "known", "follow", "is_end", "view"]
theorem sc_view_machine : FnScope N_view_machine ["letters", "views", "size"] (defScope s_view_machine) := ⟨rfl, rfl, rfl, by decide +kernel, rfl, by decide +kernel, by decide +kernel⟩
abbrev s_seen_behind : Stmt := topS 24
abbrev N_seen_behind : List Str := ["held", "letter", "known", "size", "longer", "short", "view"]
theorem sc_seen_behind : FnScope N_seen_behind ["held", "letter", "known", "size"] (defScope s_seen_behind) := ⟨rfl, rfl, rfl, by decide +kernel, rfl, by decide +kernel, by decide +kernel⟩
abbrev s_law_hand : Stmt := topS 26
abbrev N_law_hand : List Str := ["script", "cell", "k", "way"]
theorem sc_law_hand : FnScope N_law_hand ["script", "cell", "k"] (defScope s_law_hand) := ⟨rfl, rfl, rfl, by decide +kernel, rfl, by decide +kernel, by decide +kernel⟩
abbrev s_law_draw : Stmt := topS 27
abbrev N_law_draw : List Str := ["hand", "limit", "got"]
theorem sc_law_draw : FnScope N_law_draw ["hand", "limit"] (defScope s_law_draw) := ⟨rfl, rfl, rfl, by decide +kernel, rfl, by decide +kernel, by decide +kernel⟩
abbrev s_law_cells : Stmt := topS 28
abbrev N_law_cells : List Str := ["script"]
theorem sc_law_cells : FnScope N_law_cells ["script"] (defScope s_law_cells) := ⟨rfl, rfl, rfl, by decide +kernel, rfl, by decide +kernel, by decide +kernel⟩
abbrev s_law_letters : Stmt := topS 29
abbrev N_law_letters : List Str := ["hand", "most", "some"]
theorem sc_law_letters : FnScope N_law_letters ["hand", "most"] (defScope s_law_letters) := ⟨rfl, rfl, rfl, by decide +kernel, rfl, by decide +kernel, by decide +kernel⟩
abbrev s_law_short : Stmt := topS 30
abbrev N_law_short : List Str := ["letters", "size", "found", "row", "k", "longer", "word", "letter"]
theorem sc_law_short : FnScope N_law_short ["letters", "size"] (defScope s_law_short) := ⟨rfl, rfl, rfl, by decide +kernel, rfl, by decide +kernel, by decide +kernel⟩
abbrev s_law_rising : Stmt := topS 32
abbrev N_law_rising : List Str := ["words", "many", "word"]
theorem sc_law_rising : FnScope N_law_rising ["words"] (defScope s_law_rising) := ⟨rfl, rfl, rfl, by decide +kernel, rfl, by decide +kernel, by decide +kernel⟩
abbrev s_law_size : Stmt := topS 33
abbrev N_law_size : List Str := ["hand", "letters"]
theorem sc_law_size : FnScope N_law_size ["hand", "letters"] (defScope s_law_size) := ⟨rfl, rfl, rfl, by decide +kernel, rfl, by decide +kernel, by decide +kernel⟩
abbrev s_law_machine : Stmt := topS 34
abbrev N_law_machine : List Str := ["hand", "letters", "most", "many", "table", "k", "letter"]
theorem sc_law_machine : FnScope N_law_machine ["hand", "letters", "most"] (defScope s_law_machine) := ⟨rfl, rfl, rfl, by decide +kernel, rfl, by decide +kernel, by decide +kernel⟩
abbrev s_law_drawn_views : Stmt := topS 35
abbrev N_law_drawn_views : List Str := ["hand", "letters", "size", "share", "found", "view"]
theorem sc_law_drawn_views : FnScope N_law_drawn_views ["hand", "letters", "size"] (defScope s_law_drawn_views) := ⟨rfl, rfl, rfl, by decide +kernel, rfl, by decide +kernel, by decide +kernel⟩
abbrev s_law_right : Stmt := topS 36
abbrev N_law_right : List Str := ["hand", "letters", "size", "one", "other", "views", "each", "shared", "lists", "machines", "common", "told", "view", "some"]
theorem sc_law_right : FnScope N_law_right ["hand", "letters", "size"] (defScope s_law_right) := ⟨rfl, rfl, rfl, by decide +kernel, rfl, by decide +kernel, by decide +kernel⟩
abbrev s_law : Stmt := topS 37
abbrev N_law : List Str := ["script", "k", "cell", "hand", "letters"]
theorem sc_law : FnScope N_law ["script"] (defScope s_law) := ⟨rfl, rfl, rfl, by decide +kernel, rfl, by decide +kernel, by decide +kernel⟩
structure TX (K : PySem.W.Frag) (mg : Str → Option Value) where
  a_built : Addr
  fd_built : FuncData
  F_built : Fun K "built" "built" s_built a_built fd_built
  b_built : Binds K fd_built ["letters", "start", "follow", "is_end"] []
  g_built : mg "built" = some (.ref a_built)
  a_walked : Addr
  fd_walked : FuncData
  F_walked : Fun K "walked" "walked" s_walked a_walked fd_walked
  b_walked : Binds K fd_walked ["start", "follow"] []
  g_walked : mg "walked" = some (.ref a_walked)
  a_parted : Addr
  fd_parted : FuncData
  F_parted : Fun K "parted" "parted" s_parted a_parted fd_parted
  b_parted : Binds K fd_parted ["table", "ended"] []
  g_parted : mg "parted" = some (.ref a_parted)
  a_first_groups : Addr
  fd_first_groups : FuncData
  F_first_groups : Fun K "first_groups" "first_groups" s_first_groups a_first_groups fd_first_groups
  b_first_groups : Binds K fd_first_groups ["ended"] []
  g_first_groups : mg "first_groups" = some (.ref a_first_groups)
  a_ways_back : Addr
  fd_ways_back : FuncData
  F_ways_back : Fun K "ways_back" "ways_back" s_ways_back a_ways_back fd_ways_back
  b_ways_back : Binds K fd_ways_back ["table"] []
  g_ways_back : mg "ways_back" = some (.ref a_ways_back)
  a_hits_of : Addr
  fd_hits_of : FuncData
  F_hits_of : Fun K "hits_of" "hits_of" s_hits_of a_hits_of fd_hits_of
  b_hits_of : Binds K fd_hits_of ["back", "targets", "homes"] []
  g_hits_of : mg "hits_of" = some (.ref a_hits_of)
  a_split_group : Addr
  fd_split_group : FuncData
  F_split_group : Fun K "split_group" "split_group" s_split_group a_split_group fd_split_group
  b_split_group : Binds K fd_split_group ["groups", "homes", "home", "hit"] []
  g_split_group : mg "split_group" = some (.ref a_split_group)
  a_merged : Addr
  fd_merged : FuncData
  F_merged : Fun K "merged" "merged" s_merged a_merged fd_merged
  b_merged : Binds K fd_merged ["letters", "table", "ended", "homes"] []
  g_merged : mg "merged" = some (.ref a_merged)
  a_useful_ways : Addr
  fd_useful_ways : FuncData
  F_useful_ways : Fun K "useful_ways" "useful_ways" s_useful_ways a_useful_ways fd_useful_ways
  b_useful_ways : Binds K fd_useful_ways ["starts", "moves", "is_end"] []
  g_useful_ways : mg "useful_ways" = some (.ref a_useful_ways)
  a_explored : Addr
  fd_explored : FuncData
  F_explored : Fun K "explored" "explored" s_explored a_explored fd_explored
  b_explored : Binds K fd_explored ["starts", "moves"] []
  g_explored : mg "explored" = some (.ref a_explored)
  a_leading : Addr
  fd_leading : FuncData
  F_leading : Fun K "leading" "leading" s_leading a_leading fd_leading
  b_leading : Binds K fd_leading ["rows", "ended"] []
  g_leading : mg "leading" = some (.ref a_leading)
  a_unseen : Addr
  fd_unseen : FuncData
  F_unseen : Fun K "unseen" "unseen" s_unseen a_unseen fd_unseen
  b_unseen : Binds K fd_unseen ["lists", "seen"] []
  g_unseen : mg "unseen" = some (.ref a_unseen)
  a_both : Addr
  fd_both : FuncData
  F_both : Fun K "both" "both" s_both a_both fd_both
  b_both : Binds K fd_both ["one", "other"] []
  g_both : mg "both" = some (.ref a_both)
  a_either : Addr
  fd_either : FuncData
  F_either : Fun K "either" "either" s_either a_either fd_either
  b_either : Binds K fd_either ["one", "other"] []
  g_either : mg "either" = some (.ref a_either)
  a_paired : Addr
  fd_paired : FuncData
  F_paired : Fun K "paired" "paired" s_paired a_paired fd_paired
  b_paired : Binds K fd_paired ["one", "other", "wanted"] []
  g_paired : mg "paired" = some (.ref a_paired)
  a_end_marks : Addr
  fd_end_marks : FuncData
  F_end_marks : Fun K "end_marks" "end_marks" s_end_marks a_end_marks fd_end_marks
  b_end_marks : Binds K fd_end_marks ["machine"] []
  g_end_marks : mg "end_marks" = some (.ref a_end_marks)
  a_ways_of : Addr
  fd_ways_of : FuncData
  F_ways_of : Fun K "ways_of" "ways_of" s_ways_of a_ways_of fd_ways_of
  b_ways_of : Binds K fd_ways_of ["machine"] []
  g_ways_of : mg "ways_of" = some (.ref a_ways_of)
  a_views_of : Addr
  fd_views_of : FuncData
  F_views_of : Fun K "views_of" "views_of" s_views_of a_views_of fd_views_of
  b_views_of : Binds K fd_views_of ["machine", "size"] []
  g_views_of : mg "views_of" = some (.ref a_views_of)
  a_views_of_ways : Addr
  fd_views_of_ways : FuncData
  F_views_of_ways : Fun K "views_of_ways" "views_of_ways" s_views_of_ways a_views_of_ways fd_views_of_ways
  b_views_of_ways : Binds K fd_views_of_ways ["letters", "ways", "size"] []
  g_views_of_ways : mg "views_of_ways" = some (.ref a_views_of_ways)
  a_spread : Addr
  fd_spread : FuncData
  F_spread : Fun K "spread" "spread" s_spread a_spread fd_spread
  b_spread : Binds K fd_spread ["lists", "nexts"] []
  g_spread : mg "spread" = some (.ref a_spread)
  a_view_machine : Addr
  fd_view_machine : FuncData
  F_view_machine : Fun K "view_machine" "view_machine" s_view_machine a_view_machine fd_view_machine
  b_view_machine : Binds K fd_view_machine ["letters", "views", "size"] []
  g_view_machine : mg "view_machine" = some (.ref a_view_machine)
  a_seen_behind : Addr
  fd_seen_behind : FuncData
  F_seen_behind : Fun K "seen_behind" "seen_behind" s_seen_behind a_seen_behind fd_seen_behind
  b_seen_behind : Binds K fd_seen_behind ["held", "letter", "known", "size"] []
  g_seen_behind : mg "seen_behind" = some (.ref a_seen_behind)
  a_law_hand : Addr
  fd_law_hand : FuncData
  F_law_hand : Fun K "_law_hand" "_law_hand" s_law_hand a_law_hand fd_law_hand
  b_law_hand : Binds K fd_law_hand ["script", "cell", "k"] []
  g_law_hand : mg "_law_hand" = some (.ref a_law_hand)
  a_law_draw : Addr
  fd_law_draw : FuncData
  F_law_draw : Fun K "_law_draw" "_law_draw" s_law_draw a_law_draw fd_law_draw
  b_law_draw : Binds K fd_law_draw ["hand", "limit"] []
  g_law_draw : mg "_law_draw" = some (.ref a_law_draw)
  a_law_cells : Addr
  fd_law_cells : FuncData
  F_law_cells : Fun K "_law_cells" "_law_cells" s_law_cells a_law_cells fd_law_cells
  b_law_cells : Binds K fd_law_cells ["script"] []
  g_law_cells : mg "_law_cells" = some (.ref a_law_cells)
  a_law_letters : Addr
  fd_law_letters : FuncData
  F_law_letters : Fun K "_law_letters" "_law_letters" s_law_letters a_law_letters fd_law_letters
  b_law_letters : Binds K fd_law_letters ["hand", "most"] []
  g_law_letters : mg "_law_letters" = some (.ref a_law_letters)
  a_law_short : Addr
  fd_law_short : FuncData
  F_law_short : Fun K "_law_short" "_law_short" s_law_short a_law_short fd_law_short
  b_law_short : Binds K fd_law_short ["letters", "size"] []
  g_law_short : mg "_law_short" = some (.ref a_law_short)
  a_law_rising : Addr
  fd_law_rising : FuncData
  F_law_rising : Fun K "_law_rising" "_law_rising" s_law_rising a_law_rising fd_law_rising
  b_law_rising : Binds K fd_law_rising ["words"] []
  g_law_rising : mg "_law_rising" = some (.ref a_law_rising)
  a_law_size : Addr
  fd_law_size : FuncData
  F_law_size : Fun K "_law_size" "_law_size" s_law_size a_law_size fd_law_size
  b_law_size : Binds K fd_law_size ["hand", "letters"] []
  g_law_size : mg "_law_size" = some (.ref a_law_size)
  a_law_machine : Addr
  fd_law_machine : FuncData
  F_law_machine : Fun K "_law_machine" "_law_machine" s_law_machine a_law_machine fd_law_machine
  b_law_machine : Binds K fd_law_machine ["hand", "letters", "most"] []
  g_law_machine : mg "_law_machine" = some (.ref a_law_machine)
  a_law_drawn_views : Addr
  fd_law_drawn_views : FuncData
  F_law_drawn_views : Fun K "_law_drawn_views" "_law_drawn_views" s_law_drawn_views a_law_drawn_views fd_law_drawn_views
  b_law_drawn_views : Binds K fd_law_drawn_views ["hand", "letters", "size"] []
  g_law_drawn_views : mg "_law_drawn_views" = some (.ref a_law_drawn_views)
  a_law_right : Addr
  fd_law_right : FuncData
  F_law_right : Fun K "_law_right" "_law_right" s_law_right a_law_right fd_law_right
  b_law_right : Binds K fd_law_right ["hand", "letters", "size"] []
  g_law_right : mg "_law_right" = some (.ref a_law_right)
  m_all : mg "all" = none
  m_enumerate : mg "enumerate" = none
  m_int : mg "int" = none
  m_len : mg "len" = none
  m_list : mg "list" = none
  m_range : mg "range" = none
  m_set : mg "set" = none
  m_sorted : mg "sorted" = none
  m_sum : mg "sum" = none
  m_tuple : mg "tuple" = none
  m_zip : mg "zip" = none
/-! ### rows: the cell's stream -/
def RowAt (H : Hp) (r : Addr) : Prop := ∃ a b c : Int, H r = some (.lst [.int a, .int b, .int c]) ∧ 0 ≤ b ∧ b < 2147483587
/-- all that was tracked, but for what stands at r, is as it was -/
def Off (r : Addr) (H H' : Hp) : Prop := ∀ b o, b ≠ r → H b = some o → H' b = some o
theorem Off.refl (r : Addr) (H : Hp) : Off r H H := fun _ _ _ h => h
theorem Off.trans {r : Addr} {H H1 H2 : Hp} (a : Off r H H1) (b : Off r H1 H2) : Off r H H2 := fun c o n h => b c o n (a c o n h)
theorem Off.of {r : Addr} {H H' : Hp} (a : Same H H') : Off r H H' := fun c o _ h => a c o h
theorem Off.new {r p : Addr} {H : Hp} {o : HO} (h : H p = none) : Off r H (upd H p o) := fun b x _ e => by
  rw [upd_ne (ne_of_none e h)]
  exact e
theorem Off.put {r : Addr} {H : Hp} {o : HO} : Off r H (upd H r o) := fun b x n e => by
  rw [upd_ne n]
  exact e
theorem Off.mut {r p : Addr} {H H' : Hp} {o : HO} (e : Off r H H') (h : H p = none) : Off r H (upd H' p o) := fun a u n ha => by
  rw [upd_ne (ne_of_none ha h)]
  exact e a u n ha
theorem Off.free {r p : Addr} {H H' : Hp} (e : Off r H H') (hr : r ≠ p) (h : H' p = none) : H p = none := by
  cases q : H p with
  | none => rfl
  | some o =>
    rw [e p o (Ne.symm hr) q] at h
    cases h
theorem RowAt.new {r p : Addr} {H : Hp} {o : HO} (x : RowAt H r) (h : H p = none) : RowAt (upd H p o) r := by
  obtain ⟨a, b, c, e, q⟩ := x
  exact ⟨a, b, c, by rw [upd_ne (ne_of_none e h)]; exact e, q⟩
theorem RowAt.upd {r p : Addr} {H : Hp} {o : HO} (x : RowAt H r) (h : r ≠ p) : RowAt (upd H p o) r := by
  obtain ⟨a, b, c, e, q⟩ := x
  exact ⟨a, b, c, by rw [upd_ne h]; exact e, q⟩
theorem RowAt.ne {r p : Addr} {H : Hp} (x : RowAt H r) (h : H p = none) : r ≠ p := by
  obtain ⟨a, b, c, e, q⟩ := x
  exact ne_of_none e h
theorem RowAt.neT {r p : Addr} {H : Hp} {xs : List V} (x : RowAt H r) (h : H p = some (.tup xs)) : p ≠ r := by
  obtain ⟨a, b, c, e, q⟩ := x
  exact ne_of h e (by intro z; cases z)
theorem same_new {H : Hp} {p : Addr} {o : HO} (h : H p = none) : Same H (upd H p o) := fun b x e => by
  rw [upd_ne (ne_of_none e h)]
  exact e
section
variable {P : Program} {w : World} {K : PySem.W.Frag} {mg : Str → Option Value} {base : Heap}
theorem dpI {K : PySem.W.Frag} {H : Hp} : ∀ ns : List Int, DpAll K H (ns.map V.int) (ns.map PyData.int)
  | [] => .nil
  | n :: r => .cons (.int _) (dpI r)
theorem shapedI (ns : List Int) : SeqAt.shaped (.list (ns.map PyData.int)) = true := by
  have all : PyData.canLayAll0 (ns.map PyData.int) = true ∧ PyData.depthAll (ns.map PyData.int) = 0 := by
    induction ns with
    | nil => exact ⟨rfl, rfl⟩
    | cons n r ih =>
      refine ⟨?_, ?_⟩
      · show (true && PyData.canLayAll0 (r.map PyData.int)) = true
        rw [ih.1]
        rfl
      · show max 0 (PyData.depthAll (r.map PyData.int)) = 0
        rw [ih.2]
        rfl
  unfold SeqAt.shaped
  rw [Bool.and_eq_true]
  refine ⟨all.1, decide_eq_true ?_⟩
  show PyData.depthAll (ns.map PyData.int) + 1 ≤ 64
  omega
/-! ### _law_hand -/
def sp_law_hand (K : PySem.W.Frag) : Sp := fun vs H Q _ => ∃ (a : Addr) (ns : List Int) (c : Int) (k : Nat), vs = [.ref a, .int c, .int (k : Int)] ∧ SqL K H a (ns.map V.int) ∧ k ≤ 1000 ∧ ∀ H' p, Same H H' → H p = none → RowAt H' p → Q (.ref p) H'
theorem ok_law_hand (T : TX K mg) : FnOk P w K mg base CX0 1 T.a_law_hand T.fd_law_hand ["script", "cell", "k"] (sp_law_hand K) := by
  refine T.F_law_hand.ok sc_law_hand (fun vs H Q E h => ?_) (fun cdv A outer s H vs Q E hr h => ?_)
  · obtain ⟨a, ns, c, k, rfl, _⟩ := h
    rfl
  · obtain ⟨a, ns, c, k, rfl, hS, hk, q⟩ := h
    refine ⟨_, (pss_cons (ps_set (i := 3) sc_law_hand.nd rfl (Or.inl rfl) pe_int)
      (C8.pss_cut (ps_if (pt_cmpR (op_neD hr.units) (pv 0) (pe_lst pa_nil) (nomark _))
        (pss_one (ps_set (i := 3) sc_law_hand.nd rfl (Or.inl rfl) (pe_op op_mod (pe_callB (cr_sumK K rfl rfl) (by rfl) T.m_sum (by decide +kernel) (pa_cons (pv 0) pa_nil)) pe_int)))
        pss_nil)
      (pss_one (ps_ret (pe_lst (pa_cons (pv 1) (pa_cons (pe_op op_mod (pe_op op_mul (pe_op op_add (pe_op op_add (pe_op op_mod (pv 1) pe_int) (pe_op op_mul pe_int (pv 2))) pe_int) pe_int) pe_int) (pa_cons (pv 3) pa_nil)))))))), ?_⟩
    refine ⟨fun σ' H' => ∃ g : Int, Same H H' ∧ σ' = [some (.ref a), some (.int c), some (.int (k : Int)), some (.int g)], ?_, fun σ' H' hM => ?_⟩
    · refine ⟨.ref a, rfl, by show 0 ≤ sizeLine; decide, fun e ne => ⟨.list (ns.map PyData.int), .list [], .lst ((same_new ne).seq hS) (dpI ns), .lst (.inl (.inl upd_same)) .nil, shapedI ns, by decide +kernel, _, rfl, ite2 (fun z => ?_) (fun z => ?_)⟩⟩
      · exact ⟨.ref a, rfl, a, ns, rfl, (same_new ne).seq hS, _, 2, rfl, rfl, (by show (0 : Int) < 2; decide), _, same_new ne, rfl⟩
      · exact ⟨_, same_new ne, rfl⟩
    obtain ⟨g, s1, rfl⟩ := hM
    have h0 : 0 ≤ c % 2147483587 := Int.emod_nonneg _ (by decide)
    have h1 : c % 2147483587 < 2147483587 := Int.emod_lt_of_pos _ (by decide)
    refine ⟨.int c, rfl, .int c, rfl, c, 2147483587, rfl, rfl, (by show (0 : Int) < 2147483587; decide), .int (k : Int), rfl, 7919, (k : Int), rfl, rfl, .inl ⟨by decide, by decide⟩, _, _, rfl, rfl, _, 1, rfl, rfl, _, 48271, rfl, rfl, .inl ⟨by omega, by omega⟩, _, 2147483587, rfl, rfl, (by show (0 : Int) < 2147483587; decide), .int g, rfl, ?_⟩
    refine ⟨by show 3 ≤ sizeLine; decide, fun p hp => ?_⟩
    exact q _ p (s1.trans (same_new hp)) (s1.free hp) ⟨c, _, _, upd_same, Int.emod_nonneg _ (by decide), Int.emod_lt_of_pos _ (by decide)⟩
/-! ### _law_draw -/
def sp_law_draw : Sp := fun vs H Q _ => ∃ (r : Addr) (n : Int), vs = [.ref r, .int n] ∧ RowAt H r ∧ 0 < n ∧ n < 1073741824 ∧ ∀ H' g, Off r H H' → RowAt H' r → 0 ≤ g → g < n → Q (.int g) H'
theorem ok_law_draw (T : TX K mg) : FnOk P w K mg base CX0 1 T.a_law_draw T.fd_law_draw ["hand", "limit"] sp_law_draw := by
  refine T.F_law_draw.ok sc_law_draw (fun vs H Q E h => ?_) (fun cdv A outer s H vs Q E hr h => ?_)
  · obtain ⟨r, n, rfl, _⟩ := h
    rfl
  · obtain ⟨r, n, rfl, ⟨a, b, c, hrow, hb0, hb1⟩, hn0, hn1, q⟩ := h
    refine ⟨_, (pss_cons (ps_if (pt_cmpR op_eq (pe_ix (ix_listK K rfl) (pv 0) pe_int (fun _ _ => rfl)) pe_int (nomark _))
        (pss_cons (ps_set (i := 2) sc_law_draw.nd rfl (Or.inl rfl) (pe_op op_mod (pe_ix (ix_listK K rfl) (pv 0) pe_int (fun _ _ => rfl)) (pv 1)))
          (pss_cons (ps_asg (pe_op op_fdiv (pe_ix (ix_listK K rfl) (pv 0) pe_int (fun _ _ => rfl)) (pv 1)) (pg_sub (pv 0) pe_int set_list))
          (pss_one (ps_ret (pv 2)))))
        pss_nil)
      (pss_cons (ps_asg (pe_op op_mod (pe_op op_add (pe_op op_add (pe_op op_mul (pe_ix (ix_listK K rfl) (pv 0) pe_int (fun _ _ => rfl)) (pe_ix (ix_listK K rfl) (pv 0) pe_int (fun _ _ => rfl))) (pe_op op_mul pe_int (pe_ix (ix_listK K rfl) (pv 0) pe_int (fun _ _ => rfl)))) pe_int) pe_int) (pg_sub (pv 0) pe_int set_list))
      (pss_one (ps_ret (pe_op op_mod (pe_op op_fdiv (pe_ix (ix_listK K rfl) (pv 0) pe_int (fun _ _ => rfl)) pe_int) (pv 1)))))), ?_⟩
    have sq : SqL K H r [.int a, .int b, .int c] := .inl (.inl hrow)
    refine ⟨.ref r, rfl, r, _, 2, .int c, rfl, rfl, sq, atI_nat (j := 2) rfl, rfl, _, rfl, ite2 (fun e => ?_) (fun e => ?_)⟩
    · refine ⟨.ref r, rfl, r, _, 0, .int a, rfl, rfl, sq, atI_nat (j := 0) rfl, .int n, rfl, a, n, rfl, rfl, hn0, ?_⟩
      refine ⟨.ref r, rfl, r, _, 0, .int a, rfl, rfl, sq, atI_nat (j := 0) rfl, .int n, rfl, a, n, rfl, rfl, ⟨hn0, hn1⟩, ?_⟩
      refine ⟨.ref r, rfl, r, _, 0, 0, rfl, rfl, hrow, rfl, ?_⟩
      refine ⟨.int (a % n), rfl, ?_⟩
      exact q _ _ Off.put ⟨a / n, b, c, upd_same, hb0, hb1⟩ (Int.emod_nonneg _ (by omega)) (Int.emod_lt_of_pos _ hn0)
    · refine ⟨.ref r, rfl, r, _, 1, .int b, rfl, rfl, sq, atI_nat (j := 1) rfl, .ref r, rfl, r, _, 1, .int b, rfl, rfl, sq, atI_nat (j := 1) rfl, b, b, rfl, rfl, .inl ⟨by omega, by omega⟩, .ref r, rfl, r, _, 1, .int b, rfl, rfl, sq, atI_nat (j := 1) rfl, 69621, b, rfl, rfl, .inl ⟨by decide, by decide⟩, _, _, rfl, rfl, _, 12345, rfl, rfl, _, 2147483587, rfl, rfl, (by show (0 : Int) < 2147483587; decide), ?_⟩
      refine ⟨.ref r, rfl, r, _, 1, 1, rfl, rfl, hrow, rfl, ?_⟩
      have g0 : 0 ≤ (b * b + 69621 * b + 12345) % 2147483587 := Int.emod_nonneg _ (by decide)
      have g1 : (b * b + 69621 * b + 12345) % 2147483587 < 2147483587 := Int.emod_lt_of_pos _ (by decide)
      refine ⟨.ref r, rfl, r, _, 1, _, rfl, rfl, .inl (.inl upd_same), atI_nat (j := 1) rfl, _, 8, rfl, rfl, ⟨by decide, by decide⟩, .int n, rfl, _, n, rfl, rfl, hn0, ?_⟩
      exact q _ _ Off.put ⟨a, _, c, upd_same, g0, g1⟩ (Int.emod_nonneg _ (by omega)) (Int.emod_lt_of_pos _ hn0)
end
end LH

namespace LH
open PySem PySem.Spec PyProof.Rows L2
/-! ### machines in the heap -/
abbrev vi (ns : List Nat) : List V := ns.map fun (n : Nat) => V.int (n : Int)
theorem vi_snoc (ys : List Nat) (c : Nat) : vi ys ++ [V.int (c : Int)] = vi (ys ++ [c]) := by
  show _ = List.map _ (ys ++ [c])
  rw [List.map_append]
  rfl
abbrev vr (as : List Addr) : List V := as.map V.ref
theorem vr_snoc (ys : List Addr) (c : Addr) : vr ys ++ [V.ref c] = vr (ys ++ [c]) := by
  show _ = List.map _ (ys ++ [c])
  rw [List.map_append]
  rfl
structure Mach where
  z : Str
  rows : List (List Nat)
  ends : List Nat
structure Mach.Ok (M : Mach) : Prop where
  let_ : IsLet M.z
  many : 1 ≤ M.rows.length
  row : ∀ r ∈ M.rows, r.length = M.z.length ∧ ∀ t ∈ r, t < M.rows.length
  endl : ∀ e ∈ M.ends, e < M.rows.length
  rise : M.ends.Pairwise (· < ·)
def RowsAt (H : Hp) (as : List Addr) (rows : List (List Nat)) : Prop := as.length = rows.length ∧ ∀ (i : Nat) (a : Addr) (row : List Nat), as[i]? = some a → rows[i]? = some row → H a = some (.tup (vi row))
def MachAt (H : Hp) (p : Addr) (M : Mach) : Prop := ∃ t e as, H p = some (.tup [.str M.z, .ref t, .ref e]) ∧ H t = some (.tup (vr as)) ∧ RowsAt H as M.rows ∧ H e = some (.tup (vi M.ends))
/-- tuples stand -/
def Tups (H H' : Hp) : Prop := ∀ b xs, H b = some (.tup xs) → H' b = some (.tup xs)
theorem Tups.refl (H : Hp) : Tups H H := fun _ _ h => h
theorem Tups.trans {H H1 H2 : Hp} (a : Tups H H1) (b : Tups H1 H2) : Tups H H2 := fun c o h => b c o (a c o h)
theorem Tups.same {H H' : Hp} (a : Same H H') : Tups H H' := fun c _ h => a c _ h
theorem Tups.off {r : Addr} {H H' : Hp} (R : RowAt H r) (a : Off r H H') : Tups H H' := fun c _ h => a c _ (R.neT h) h
theorem Tups.new {p : Addr} {H : Hp} {o : HO} (h : H p = none) : Tups H (upd H p o) := Tups.same (same_new h)
theorem Tups.lst {p : Addr} {H : Hp} {xs : List V} {o : HO} (h : H p = some (.lst xs)) : Tups H (upd H p o) := fun c ys e => by
  rw [upd_ne (ne_of e h (by intro z; cases z))]
  exact e
theorem RowsAt.mono {H H' : Hp} {as : List Addr} {rows : List (List Nat)} (t : Tups H H') (h : RowsAt H as rows) : RowsAt H' as rows := ⟨h.1, fun i a row x y => t _ _ (h.2 i a row x y)⟩
theorem MachAt.mono {H H' : Hp} {p : Addr} {M : Mach} (t : Tups H H') (h : MachAt H p M) : MachAt H' p M := by
  obtain ⟨a, b, c, h1, h2, h3, h4⟩ := h
  exact ⟨a, b, c, t _ _ h1, t _ _ h2, h3.mono t, t _ _ h4⟩
theorem RowsAt.snoc {H : Hp} {as : List Addr} {rows : List (List Nat)} {a : Addr} {row : List Nat} (h : RowsAt H as rows) (ha : H a = some (.tup (vi row))) : RowsAt H (as ++ [a]) (rows ++ [row]) := by
  refine ⟨by rw [List.length_append, List.length_append, h.1]; rfl, fun i b r x y => ?_⟩
  by_cases hi : i < as.length
  · rw [List.getElem?_append_left hi] at x
    rw [List.getElem?_append_left (by rw [← h.1]; exact hi)] at y
    exact h.2 i b r x y
  · rw [List.getElem?_append_right (by omega)] at x
    rw [List.getElem?_append_right (by rw [← h.1]; omega), ← h.1] at y
    have e : i - as.length = 0 := by
      cases q : i - as.length with
      | zero => rfl
      | succ k =>
        rw [q] at x
        simp at x
    rw [e] at x y
    cases x
    cases y
    exact ha
theorem mem_snoc {α : Type} {p : α → Prop} {xs : List α} {x : α} (h : ∀ y ∈ xs, p y) (hx : p x) : ∀ y ∈ xs ++ [x], p y := fun y hy => by
  rcases List.mem_append.mp hy with q | q
  · exact h y q
  · rw [List.mem_singleton.mp q]
    exact hx
section
variable {P : Program} {w : World} {K : PySem.W.Frag} {mg : Str → Option Value} {base : Heap}
end
end LH

namespace LH
open PySem PySem.Spec PyProof.Rows L2
/-! ### what a machine has -/
def Mach.step (M : Mach) (s c : Nat) : Nat := (M.rows.getD s []).getD (M.z.cps.toList.idxOf c) 0
def Mach.run (M : Mach) (cs : List Nat) : Nat := cs.foldl M.step 0
def Mach.has (M : Mach) (cs : List Nat) : Bool := decide (M.run cs ∈ M.ends)
theorem inV_vi (n : Nat) : ∀ ns : List Nat, inV (.int (n : Int)) (vi ns) = decide (n ∈ ns)
  | [] => rfl
  | a :: r => by
    show (((a : Int) == (n : Int)) || inV (.int (n : Int)) (vi r)) = _
    rw [inV_vi n r]
    by_cases e : a = n
    · subst e
      simp
    · have e1 : ((a : Int) == (n : Int)) = false := beq_eq_false_iff_ne.mpr (by omega)
      have e2 : ¬ n = a := fun q => e q.symm
      rw [e1]
      simp [e2]
theorem flat_vi : ∀ ns : List Nat, (vi ns).all flatV = true
  | [] => rfl
  | _ :: r => flat_vi r
theorem idx_lt {z : Str} {c : Nat} (h : c ∈ z.cps.toList) : z.cps.toList.idxOf c < z.length := by
  have := List.idxOf_lt_length_iff.mpr h
  rw [Array.length_toList] at this
  exact this
theorem Mach.Ok.row_at {M : Mach} (k : M.Ok) {s : Nat} (h : s < M.rows.length) : ∃ row, M.rows[s]? = some row ∧ M.rows.getD s [] = row ∧ row.length = M.z.length ∧ ∀ t ∈ row, t < M.rows.length := by
  refine ⟨M.rows[s], List.getElem?_eq_getElem h, ?_, k.row _ (List.getElem_mem h)⟩
  rw [List.getD_eq_getElem?_getD, List.getElem?_eq_getElem h]
  rfl
theorem Mach.Ok.step_at {M : Mach} (k : M.Ok) {s c : Nat} (h : s < M.rows.length) (hc : c ∈ M.z.cps.toList) : ∃ row, M.rows[s]? = some row ∧ row[M.z.cps.toList.idxOf c]? = some (M.step s c) ∧ M.step s c < M.rows.length := by
  obtain ⟨row, e, g, l, t⟩ := k.row_at h
  have hi : M.z.cps.toList.idxOf c < row.length := by
    rw [l]
    exact idx_lt hc
  have es : M.step s c = row[M.z.cps.toList.idxOf c] := by
    unfold Mach.step
    rw [g, List.getD_eq_getElem?_getD, List.getElem?_eq_getElem hi]
    rfl
  refine ⟨row, e, ?_, ?_⟩
  · rw [es, List.getElem?_eq_getElem hi]
  · rw [es]
    exact t _ (List.getElem_mem hi)
theorem Mach.Ok.run_lt {M : Mach} (k : M.Ok) : ∀ (cs : List Nat) (s : Nat), s < M.rows.length → (∀ c ∈ cs, c ∈ M.z.cps.toList) → cs.foldl M.step s < M.rows.length
  | [], _, h, _ => h
  | c :: r, s, h, hc => by
    obtain ⟨_, _, _, q⟩ := k.step_at h (hc c (List.mem_cons_self ..))
    exact Mach.Ok.run_lt k r _ q fun d hd => hc d (List.mem_cons_of_mem _ hd)
theorem run_snoc (M : Mach) {cs : List Nat} {i c : Nat} (h : cs[i]? = some c) : M.run (cs.take (i + 1)) = M.step (M.run (cs.take i)) c := by
  rw [List.take_add_one, h]
  unfold Mach.run
  rw [List.foldl_append]
  rfl
theorem RowsAt.get {H : Hp} {as : List Addr} {rows : List (List Nat)} {s : Nat} {row : List Nat} (h : RowsAt H as rows) (e : rows[s]? = some row) : ∃ a, as[s]? = some a ∧ (vr as)[s]? = some (.ref a) ∧ H a = some (.tup (vi row)) := by
  have hs : s < as.length := by
    rw [h.1]
    exact (List.getElem?_eq_some_iff.mp e).1
  refine ⟨as[s], List.getElem?_eq_getElem hs, ?_, h.2 s _ _ (List.getElem?_eq_getElem hs) e⟩
  rw [List.getElem?_map, List.getElem?_eq_getElem hs]
  rfl
end LH

namespace LH
open PySem PySem.Spec PyProof.Rows L2
/-! ### name = {k: v for ..}; walks of pairs by a K of their own -/
abbrev InBlk (X : Cx) (scope : Scope) (J : Cx → Prop) : Prop := ∀ (s : Shared) (H : Hp) (C : Addr) (cl : List (Str × Addr)) (fp : List Addr), J (X.blk s H scope (compEnvC scope cl C X.env) fp)
section
variable {X : Cx}
theorem ps_setDc {i : Nat} {y : Str} {py dp sp : Pos} {kx vx tg it : Expr} {ifs : List Expr} {scope : Scope} {own : List (Str × Nat)} {wi : TI} {g : TG} {tt : TT} {tk tv : TE} (calm : X.calm = true) (nd : X.N.Nodup) (hy : X.N[i]? = some y) (loc : X.env.scope.names.lookup y = some .local)
    (sw : swapsWith (.DictComp kx vx [⟨tg, it, ifs, 0⟩] scope dp) (some (.Name y py)) sp.line X.env = pure true) (hi : PI X tg it wi) (ok : BlkOk X.N X.env.scope scope own) (hg : InBlk X scope fun Y => PG Y tg g) (ht : InBlk X scope fun Y => PTs Y ifs tt) (hk : InBlk X scope fun Y => PE Y kx tk) (hv : InBlk X scope fun Y => PE Y vx tv)
    (hf : ∀ x, foldedSetIterable it X.env x = pure x := by intro _; rfl) : PS X (.Assign [.Name y py] (.DictComp kx vx [⟨tg, it, ifs, 0⟩] scope dp) sp) (tAsg (tDc wi g tt tk tv (own.map (·.2))) (gName i)) := by
  refine ⟨fun pins s σ H D I q0 => ?_⟩
  have q1 : tDc wi g tt tk tv (own.map (·.2)) σ H (fun x H1 => gName i x σ H1 D.nx) := q0
  rw [exec_Assign_Name_used _ _ _ _ sw]
  refine wpAny_bind (wpAny_standAt (wpAny_bind ?_))
  show wpAny _ X.A (do let _ ← comprehension (.DictComp kx vx [⟨tg, it, ifs, 0⟩] scope dp) scope X.env (firstIterPos [⟨tg, it, ifs, 0⟩] dp) newDict false (eval it X.env) (some (assign (.Name y py) X.env))) _ _ s
  refine wpAny_bind (thn (dc_core (Qf := fun _ s' => SP X pins D .next s') calm nd I hi ok hg ht hk hv hf q1 fun L C s' m H' I' q hn f => ?_) fun _ s' z => wpAny_pure (wpAny_pure z))
  show wpAny _ _ (assign (.Name y py) X.env (V.ref L |> fun _ => Value.ref L)) _ _ _
  refine wpAny_assign_Name (store_ok2 (v := V.ref L) I' nd hy (.inl loc) rfl (fun s2 I2 st => ?_) (.inr loc))
  obtain ⟨a, sb, ha⟩ := st
  have na : C ≠ a := by rcases ha with z | z; (· rw [z]; exact f.2.1); (· exact fun e => f.2.2.2.2.1 y a z e.symm)
  exact ⟨m, hn.sameBut sb na, fun h3 sb3 => ⟨_, H', I2.turned (t' := s2.toks) (fun b o hb e => (sb3.2 b hb).trans e) f.1 f.2.1 f.2.2.2.1 f.2.2.2.2.1 f.2.2.2.2.2, q⟩⟩
theorem sw_trueD {kx vx : Expr} {gs : List Comprehension} {scope : Scope} {pos py : Pos} {y : Str} {l : Nat} {env : Env} (hk : env.scope.kind = .function) (hy : env.scope.names.lookup y = some .local) (hl : (py.line == pos.line) = true) (ha : (scope.names.any fun (n, k) => n == y && (k == .local || k == .cell)) = false) :
    swapsWith (.DictComp kx vx gs scope pos) (some (.Name y py)) l env = pure true := by
  have b : env.blockKind = .function := by rw [Env.blockKind, hk]; rfl
  have k : env.kindOf y = some .local := hy
  unfold swapsWith
  simp only [b, k, ha, Expr.pos, hl]
  rfl
variable (K : PySem.W.Frag) (hK : X.K = K)
include hK
theorem pi_enumK {e : Expr} {ta : TA} {p pos tp : Pos} {elts : List Expr} {kk : Nat} (hg : Gl X "enumerate") (hm : X.mg "enumerate" = none) (ha : PA X [e] ta) (hs : starEach [e] X.env = [(false, eval e X.env)] := by rfl) : PI X (.Tuple elts kk tp) (.Call (.Name "enumerate" p) [e] [] pos) (iEnum K ta) := by subst hK; exact pi_enum hg hm ha hs
end
/-! ### walks of dicts of whole numbers -/
abbrev dk (g : List Nat) : List (Key × V) := g.map fun (s : Nat) => (Sum.inl (s : Int), V.bl true)
theorem valV_dk (s : Nat) : ∀ g : List Nat, valV (dk g) (Sum.inl (s : Int) : Key) = if s ∈ g then some (.bl true) else none
  | [] => rfl
  | a :: r => by
    show valV ((Sum.inl (a : Int), V.bl true) :: dk r) (Sum.inl (s : Int) : Key) = _
    by_cases e : a = s
    · subst e
      rw [valV_pos rfl, if_pos (List.mem_cons_self ..)]
    · rw [valV_neg (fun q => e (by have := Sum.inl.inj q; omega)), valV_dk s r]
      have : (s ∈ a :: r) ↔ s ∈ r := ⟨fun h => by
        rcases List.mem_cons.mp h with z | z
        · exact absurd z.symm e
        · exact z, fun h => List.mem_cons_of_mem _ h⟩
      by_cases h : s ∈ r
      · rw [if_pos h, if_pos (this.mpr h)]
      · rw [if_neg h, if_neg (fun z => h (this.mp z))]
theorem putK_dk {s : Nat} {g : List Nat} (h : s ∉ g) : putK (dk g) (Sum.inl (s : Int) : Key) (.bl true) = dk (g ++ [s]) := by
  unfold putK
  rw [valV_any, valV_dk, if_neg h, if_neg (by decide)]
  show _ = List.map _ (g ++ [s])
  rw [List.map_append]
  rfl
theorem putK_dk_in {s : Nat} {g : List Nat} (h : s ∈ g) : putK (dk g) (Sum.inl (s : Int) : Key) (.bl true) = dk g := by
  unfold putK
  rw [valV_any, valV_dk, if_pos h, if_pos (by decide)]
  show List.map _ (List.map _ g) = List.map _ g
  rw [List.map_map]
  refine List.map_congr_left fun a _ => ?_
  show (if (Sum.inl (a : Int) : Key) = Sum.inl (s : Int) then ((Sum.inl (a : Int) : Key), V.bl true) else (Sum.inl (a : Int), V.bl true)) = _
  split <;> rfl
theorem dropK_dk (s : Nat) (g : List Nat) : dropK (dk g) (Sum.inl (s : Int) : Key) = dk (g.filter fun a => decide (a ≠ s)) := by
  unfold dropK
  show List.filter _ (List.map _ g) = List.map _ (g.filter _)
  rw [List.filter_map]
  congr 1
  refine List.filter_congr fun a _ => ?_
  show decide ((Sum.inl (a : Int) : Key) ≠ Sum.inl (s : Int)) = decide (a ≠ s)
  by_cases e : a = s
  · subst e
    simp
  · have h2 : ¬ ((Sum.inl (a : Int) : Key) = Sum.inl (s : Int)) := fun q => e (by have := Sum.inl.inj q; omega)
    simp only [ne_eq, h2, e, not_false_eq_true, decide_true]
theorem keys_dk (g : List Nat) : (dk g).map (fun kv => kV kv.1) = vi g := by
  show List.map _ (List.map _ g) = _
  rw [List.map_map]
  rfl
theorem dk_get {g : List Nat} {i : Nat} {k : Key} {v : V} (h : (dk g)[i]? = some (k, v)) : ∃ s, g[i]? = some s ∧ k = Sum.inl (s : Int) ∧ v = .bl true := by
  rw [List.getElem?_map] at h
  cases e : g[i]? with
  | none =>
    rw [e] at h
    cases h
  | some s =>
    rw [e] at h
    cases h
    exact ⟨s, rfl, rfl, rfl⟩
/-- a dict comprehension over anything that walks: Pv by the turn and the heap (the new dict at D within) -/
theorem dc_it {J : It} {n : Nat} {G : Hp → Prop} {Y : Nat → Hp → V → Hp → Prop} (w : Walk J n G Y) {g : TG} {tt : TT} {tk tv : TE} {vs : List Nat} {σ : L2.St} {H1 : Hp} {D : Addr} {Qd : Hp → Prop} (Pv : Nat → Hp → Prop) (p0 : Pv 0 (upd H1 D (.dK []))) (pG : ∀ i H, i ≤ n → Pv i H → G H)
    (turn : ∀ i x H H', i < n → Pv i H → Y i H x H' → g x (wipe σ vs) H' fun σ2 H2 => wipe σ2 vs = wipe σ vs ∧ tt σ2 H2 fun b H3 => if b = true then tk σ2 H3 fun y H4 => tv σ2 H4 fun z H5 => ∃ kvs k, y = kV k ∧ H5 D = some (.dK kvs) ∧ kvs.length < sizeLine ∧ Pv (i + 1) (upd H5 D (.dK (putK kvs k z))) else Pv (i + 1) H3) (last : ∀ H, Pv n H → Qd H) :
    ∃ W : Nat → Nat → Hp → Prop, (∃ m, W 0 m (upd H1 D (.dK []))) ∧ ∀ i m H, W i m H → (J.stop i H ∧ Qd H) ∨ (J.go i H ∧ ∃ Nx : Hp → Prop, (∀ H', Nx H' → ∃ m', m' < m ∧ W (i + 1) m' H') ∧ ∀ x H', J.yld i H x H' → g x (wipe σ vs) H' fun σ2 H2 => wipe σ2 vs = wipe σ vs ∧ tt σ2 H2 fun b H3 =>
      if b = true then tk σ2 H3 fun y H4 => tv σ2 H4 fun z H5 => ∃ kvs k, y = kV k ∧ H5 D = some (.dK kvs) ∧ kvs.length < sizeLine ∧ Nx (upd H5 D (.dK (putK kvs k z))) else Nx H3) := by
  refine ⟨fun i m H => m + i = n ∧ Pv i H, ⟨n, rfl, p0⟩, fun i m H z => ?_⟩
  obtain ⟨e, p⟩ := z
  have q := pG i H (by omega) p
  cases m with
  | zero =>
    have e' : i = n := by omega
    subst e'
    exact Or.inl ⟨w.stops H q, last H p⟩
  | succ m => exact Or.inr ⟨w.goes i H (by omega) q, Pv (i + 1), fun H' p' => ⟨m, Nat.lt_succ_self m, by omega, p'⟩, fun x H' y => turn i x H H' (by omega) p (w.yields i H x H' (by omega) q y)⟩
/-! ### counting -/
theorem len_le_of_sub {α : Type} [DecidableEq α] : ∀ {xs ys : List α}, xs.Nodup → (∀ x ∈ xs, x ∈ ys) → xs.length ≤ ys.length
  | [], _, _, _ => Nat.zero_le _
  | x :: xs, ys, nd, h => by
    have hx := h x (List.mem_cons_self ..)
    have nd' := List.nodup_cons.mp nd
    have ih := len_le_of_sub (xs := xs) (ys := ys.erase x) nd'.2 fun y hy => by
      have hne : y ≠ x := fun e => nd'.1 (e ▸ hy)
      exact (List.mem_erase_of_ne hne).mpr (h y (List.mem_cons_of_mem _ hy))
    rw [List.length_erase_of_mem hx] at ih
    have := List.length_pos_of_mem hx
    show xs.length + 1 ≤ ys.length
    omega
theorem all_of_len {xs ys : List Nat} (nx : xs.Nodup) (h : ∀ x ∈ xs, x ∈ ys) (l : ys.length ≤ xs.length) : ∀ y ∈ ys, y ∈ xs := fun y hy => by
  by_cases q : y ∈ xs
  · exact q
  · have := len_le_of_sub (xs := y :: xs) (ys := ys) (List.nodup_cons.mpr ⟨q, nx⟩) fun z hz => by
      rcases List.mem_cons.mp hz with rfl | hz
      · exact hy
      · exact h z hz
    have : xs.length + 1 ≤ ys.length := this
    omega
end LH

namespace LH
open PySem PySem.Spec PyProof.Rows L2 NdefX LamX
/-! ### captured cells, tracked: so that a made function may be handed on -/
def CellO (c : Addr) (o : Obj) : HO := .ext fun h => h.get? c = some o
structure CellsT (H : Hp) (cl : List (Str × Addr)) (fr : List Str) (ws : List (Option V)) : Prop where
  len : ws.length = fr.length
  inj : ∀ x y c, cl.lookup x = some c → cl.lookup y = some c → x = y
  all : ∀ y c, cl.lookup y = some c → ∃ o v, H c = some (CellO c o) ∧ o.data = .cell v
  has : ∀ (i : Nat) (y : Str), fr[i]? = some y → ∃ c, cl.lookup y = some c ∧ ∀ v, ws[i]? = some (some v) → ∃ o u, H c = some (CellO c o) ∧ o.data = .cell (some u) ∧ RelV v u
theorem CellsT.same {H H' : Hp} {cl : List (Str × Addr)} {fr : List Str} {ws : List (Option V)} (C : CellsT H cl fr ws) (e : ∀ b o, H b = some (CellO b o) → H' b = some (CellO b o)) : CellsT H' cl fr ws := by
  refine ⟨C.len, C.inj, fun y c h => ?_, fun i y h => ?_⟩
  · obtain ⟨o, v, a, b⟩ := C.all y c h
    exact ⟨o, v, e _ _ a, b⟩
  · obtain ⟨c, a, b⟩ := C.has i y h
    refine ⟨c, a, fun v hv => ?_⟩
    obtain ⟨o, u, x, z⟩ := b v hv
    exact ⟨o, u, e _ _ x, z⟩
abbrev inC (cl : List (Str × Addr)) (b : Addr) : Prop := ∃ y, cl.lookup y = some b
open Classical in
noncomputable def hide (S : Addr → Prop) (H : Hp) : Hp := fun b => if S b then none else H b
open Classical in
noncomputable def back (S : Addr → Prop) (H H' : Hp) : Hp := fun b => if S b then H b else H' b
section
variable {S : Addr → Prop} {H H' : Hp} {b : Addr}
theorem hide_in (h : S b) : hide S H b = none := by unfold hide; rw [if_pos h]
theorem hide_out (h : ¬ S b) : hide S H b = H b := by unfold hide; rw [if_neg h]
theorem hide_some {o : HO} (h : hide S H b = some o) : ¬ S b ∧ H b = some o := by
  by_cases z : S b
  · rw [hide_in z] at h
    cases h
  · rw [hide_out z] at h
    exact ⟨z, h⟩
theorem back_in (h : S b) : back S H H' b = H b := by unfold back; rw [if_pos h]
theorem back_out (h : ¬ S b) : back S H H' b = H' b := by unfold back; rw [if_neg h]
end
theorem cellO_at {P : Program} {w : World} {H : Hp} {h : Heap} {c : Addr} {o : Obj} (hok : HOk P w H h) (e : H c = some (CellO c o)) : h.get? c = some o := (hok c _ e).1
theorem cellO_ok {P : Program} {w : World} {H : Hp} {h : Heap} {c : Addr} {o : Obj} (e : h.get? c = some o) : ObjOk P w H h c (CellO c o) := ⟨e, ⟨o, e⟩, fun h1 h2 a k => k o a⟩
/-- what is hidden is no own dict, no tuple -/
theorem hok_hide {P : Program} {w : World} {S : Addr → Prop} {H : Hp} {h : Heap} (hok : HOk P w H h) (ext : ∀ b, S b → ∃ o, H b = some (CellO b o)) : HOk P w (hide S H) h := fun a o e => by
  obtain ⟨_, e⟩ := hide_some e
  refine (hok a o e).stay (fun _ _ _ q => q) (fun b q => ?_) fun b xs q => ?_
  · rw [hide_out (fun z => by
      obtain ⟨o, y⟩ := ext b z
      rw [q] at y
      cases y)]
    exact q
  · rw [hide_out (fun z => by
      obtain ⟨o, y⟩ := ext b z
      rw [q] at y
      cases y)]
    exact q
section
variable {P : Program} {w : World} {K : PySem.W.Frag} {mg : Str → Option Value} {base : Heap} {k : Nat} {f : Addr} {F : NF} {ps fr : List Str} {sp : List (Option V) → Sp} {A : Around} {outer : List Env} {s : Shared} {H : Hp} {us : List Value} {vs : List V} {ws : List (Option V)} {Q : VK} {E : XK}
/-- a made function called where its cells are tracked -/
theorem run_cell (Fn : NOk P w K mg base CX0 k f F ps fr sp) (hr : Room k A) (e0 : Env0 P w K mg base A outer s H) (hf : H f = some (FnO f F)) (hc : H F.c = some (CodeO F.c F.qual)) (C : CellsT H F.cl fr ws) (r : Vals vs us) (q : sp ws vs (hide (inC F.cl) H) (fun v H' => (∀ b, inC F.cl b → H' b = none) → Q v (back (inC F.cl) H H')) E) :
    codeAny (model P w) A (.call (.ref f) ⟨us, []⟩) (CR CX0 outer P w H s Q E) s := by
  have ext : ∀ b, inC F.cl b → ∃ o, H b = some (CellO b o) := fun b ⟨y, hy⟩ => by
    obtain ⟨o, v, z, _⟩ := C.all y b hy
    exact ⟨o, z⟩
  have cellD : ∀ b, inC F.cl b → ∃ o v, H b = some (CellO b o) ∧ s.heap.get? b = some o ∧ o.data = .cell v := fun b ⟨y, hy⟩ => by
    obtain ⟨o, v, z, d⟩ := C.all y b hy
    exact ⟨o, v, z, cellO_at e0.hok z, d⟩
  have nf : ¬ inC F.cl f := fun z => by
    obtain ⟨o, v, _, g, d⟩ := cellD f z
    obtain ⟨od, sl, doc, pm, ctv, ho⟩ := fnO_at e0.hok hf
    rw [ho] at g
    cases g
    cases d
  have nc : ¬ inC F.cl F.c := fun z => by
    obtain ⟨o, v, _, g, d⟩ := cellD _ z
    have : HOk P w H s.heap := e0.hok
    obtain ⟨oc, vs', t, h1, h2, _⟩ := (this _ _ hc).1
    rw [h1] at g
    cases g
    rw [h2] at d
    cases d
  have e1 : Env0 P w K mg base A outer s (hide (inC F.cl) H) := ⟨e0.frames, e0.mod, fun b o hb => ⟨(e0.bs b o hb).1, by
      by_cases z : inC F.cl b
      · exact hide_in z
      · rw [hide_out z]; exact (e0.bs b o hb).2⟩, e0.bsz, e0.funs, fun b hb => by
      by_cases z : inC F.cl b
      · exact hide_in z
      · rw [hide_out z]; exact e0.frf b hb, hok_hide e0.hok ext, e0.bare⟩
  have CA : CellsAt F.cl fr ws s.heap (hide (inC F.cl) H) := by
    refine ⟨C.len, fun y c hy => ⟨hide_in ⟨y, hy⟩, ?_⟩, C.inj, fun i y hy => ?_⟩
    · obtain ⟨o, v, _, g, d⟩ := cellD c ⟨y, hy⟩
      exact ⟨v, o, g, d⟩
    · obtain ⟨c, hc, hv⟩ := C.has i y hy
      refine ⟨c, hc, fun v ev => ?_⟩
      obtain ⟨o, u, z, d, rv⟩ := hv v ev
      exact ⟨u, rv, o, cellO_at e0.hok z, d⟩
  refine codeAny_mono (Fn.run A outer s (hide (inC F.cl) H) us vs ws _ E hr e1 (by rw [hide_out nf]; exact hf) (by rw [hide_out nc]; exact hc) CA r q) fun res s' hq => ?_
  cases res with
  | error e => exact hq
  | ok fl =>
    cases fl with
    | next => exact hq
    | brk => exact hq
    | cont => exact hq
    | ret u =>
      obtain ⟨v, H1, os, bare, un, hok, rv, q1⟩ := hq
      have out : ∀ b, H b = none → ¬ inC F.cl b := fun b n z => by
        obtain ⟨o, y⟩ := ext b z
        rw [n] at y
        cases y
      have outx : ∀ b x, H b = some x → (∀ o, x ≠ CellO b o) → ¬ inC F.cl b := fun b x e n z => by
        obtain ⟨o, y⟩ := ext b z
        rw [e] at y
        exact n o (Option.some.inj y)
      have h1n : ∀ b, inC F.cl b → H1 b = none := fun b z => by
        obtain ⟨o, v, _, g, _⟩ := cellD b z
        exact un.free b o g (hide_in z) (by simp)
      refine ⟨v, back (inC F.cl) H H1, os, bare, ⟨fun b o e n hb hx => ?_, fun b o e n hb hx => ?_, fun b o e n hx => ?_, un.there, fun b xs e => ?_, fun b o u e => ?_, fun b ps e => ?_⟩, fun a o e => ?_, rv, q1 h1n⟩
      · exact un.keep b o e (by rw [hide_out (out b n)]; exact n) hb hx
      · exact un.slot b o e (by rw [hide_out (out b n)]; exact n) hb hx
      · rw [back_out (out b n)]
        exact un.free b o e (by rw [hide_out (out b n)]; exact n) hx
      · have z := outx b _ e (by intro o y; cases y)
        rw [back_out z]
        exact un.tups b xs (by rw [hide_out z]; exact e)
      · have z := outx b _ e (by intro o y; cases y)
        rw [back_out z]
        exact un.frzs b o u (by rw [hide_out z]; exact e)
      · have z := outx b _ e (by intro o y; cases y)
        rw [back_out z]
        exact un.tbls b ps (by rw [hide_out z]; exact e)
      · by_cases z : inC F.cl a
        · rw [back_in z] at e
          obtain ⟨o', v', y, g, _⟩ := cellD a z
          rw [y] at e
          cases e
          refine cellO_ok (un.keep a o' g (hide_in z) (fun hb => ?_) (by simp))
          have := e0.frf a hb
          rw [y] at this
          cases this
        · rw [back_out z] at e
          refine (hok a o e).stay (fun _ _ _ q => q) (fun b q => ?_) fun b xs q => ?_
          · rw [back_out (fun y => by rw [h1n b y] at q; cases q)]
            exact q
          · rw [back_out (fun y => by rw [h1n b y] at q; cases q)]
            exact q
end
open Classical in
/-- the cells laid open: each by the object that stands there -/
noncomputable def lay (S : Addr → Prop) (h : Heap) (H : Hp) : Hp := fun b => if S b then (h.get? b).map (CellO b) else H b
theorem lay_out {S : Addr → Prop} {h : Heap} {H : Hp} {b : Addr} (z : ¬ S b) : lay S h H b = H b := by unfold lay; rw [if_neg z]
theorem lay_in {S : Addr → Prop} {h : Heap} {H : Hp} {b : Addr} {o : Obj} (z : S b) (g : h.get? b = some o) : lay S h H b = some (CellO b o) := by unfold lay; rw [if_pos z, g]; rfl
section
variable {P : Program} {w : World} {K : PySem.W.Frag} {mg : Str → Option Value} {base : Heap} {k : Nat} {f : Addr} {fd : FuncData} {cl : List (Str × Addr)} {ps fr : List Str} {sp : Sp} {A : Around} {outer : List Env} {s : Shared} {H : Hp} {args : Args} {us : List Value} {vs : List V} {ws : List (Option V)} {Q : VK} {E : XK}
/-- a def called with the caller's cells tracked -/
theorem run_track (F : FnOk P w K mg base CX0 k f fd ps sp) (hr : Room k A) (e0 : Env0 P w K mg base A outer s H) (hb : BindsTo s fd args (ps.zip us)) (r : Vals vs us) (C : CellsAt cl fr ws s.heap H) (old : ∀ b, inC cl b → base.get? b = none ∧ b ∉ frs outer)
    (q : ∀ H2 : Hp, (∀ b, ¬ inC cl b → H2 b = H b) → CellsT H2 cl fr ws → sp vs H2 (fun v H' => (∀ b, inC cl b → H' b = H2 b) ∧ Q v (hide (inC cl) H')) E) : codeAny (model P w) A (.call (.ref f) args) (CR CX0 outer P w H s Q E) s := by
  have cellD : ∀ b, inC cl b → ∃ o v, H b = none ∧ s.heap.get? b = some o ∧ o.data = .cell v := fun b ⟨y, hy⟩ => by
    obtain ⟨n, v, o, g, d⟩ := C.all y b hy
    exact ⟨o, v, n, g, d⟩
  have CT : CellsT (lay (inC cl) s.heap H) cl fr ws := by
    refine ⟨C.len, C.inj, fun y c hy => ?_, fun i y hy => ?_⟩
    · obtain ⟨o, v, _, g, d⟩ := cellD c ⟨y, hy⟩
      exact ⟨o, v, lay_in ⟨y, hy⟩ g, d⟩
    · obtain ⟨c, hc, hv⟩ := C.has i y hy
      refine ⟨c, hc, fun v ev => ?_⟩
      obtain ⟨u, rv, o, g, d⟩ := hv v ev
      exact ⟨o, u, lay_in ⟨y, hc⟩ g, d, rv⟩
  have ext : ∀ b, inC cl b → ∃ o, lay (inC cl) s.heap H b = some (CellO b o) := fun b z => by
    obtain ⟨o, v, _, g, _⟩ := cellD b z
    exact ⟨o, lay_in z g⟩
  have hokL : HOk P w (lay (inC cl) s.heap H) s.heap := fun a o e => by
    by_cases z : inC cl a
    · obtain ⟨o', v, _, g, _⟩ := cellD a z
      rw [lay_in z g] at e
      cases e
      exact cellO_ok g
    · rw [lay_out z] at e
      refine (e0.hok a o e).stay (fun _ _ _ q => q) (fun b q => ?_) fun b xs q => ?_
      · rw [lay_out (fun y => by
          obtain ⟨_, _, n, _⟩ := cellD b y
          rw [n] at q
          cases q)]
        exact q
      · rw [lay_out (fun y => by
          obtain ⟨_, _, n, _⟩ := cellD b y
          rw [n] at q
          cases q)]
        exact q
  have e1 : Env0 P w K mg base A outer s (lay (inC cl) s.heap H) := ⟨e0.frames, e0.mod, fun b o hb' => ⟨(e0.bs b o hb').1, ?_⟩, e0.bsz, e0.funs, fun b hb' => ?_, hokL, e0.bare⟩
  · refine codeAny_mono (F.run A outer s (lay (inC cl) s.heap H) args us vs _ E hr e1 hb r (q _ (fun b z => lay_out z) CT)) fun res s' hq => ?_
    cases res with
    | error e => exact hq
    | ok fl =>
      cases fl with
      | next => exact hq
      | brk => exact hq
      | cont => exact hq
      | ret u =>
        obtain ⟨v, H1, os, bare, un, hok, rv, same, q1⟩ := hq
        have kept : ∀ b o, inC cl b → s.heap.get? b = some o → s'.heap.get? b = some o := fun b o z g => cellO_at hok ((same b z).trans (lay_in z g))
        have nin : ∀ b x, H b = some x → ¬ inC cl b := fun b x e z => by
          obtain ⟨_, _, n, _⟩ := cellD b z
          rw [n] at e
          cases e
        refine ⟨v, hide (inC cl) H1, os, bare, ⟨fun b o e n hb' hx => ?_, fun b o e n hb' hx => ?_, fun b o e n hx => ?_, un.there, fun b xs e => ?_, fun b o u e => ?_, fun b ps e => ?_⟩, hok_hide hok fun b z => ?_, rv, q1⟩
        · by_cases z : inC cl b
          · exact kept b o z e
          · exact un.keep b o e (by rw [lay_out z]; exact n) hb' hx
        · by_cases z : inC cl b
          · exact ⟨o.slots, kept b o z e⟩
          · exact un.slot b o e (by rw [lay_out z]; exact n) hb' hx
        · by_cases z : inC cl b
          · exact hide_in z
          · rw [hide_out z]
            exact un.free b o e (by rw [lay_out z]; exact n) hx
        · have z := nin b _ e
          rw [hide_out z]
          exact un.tups b xs (by rw [lay_out z]; exact e)
        · have z := nin b _ e
          rw [hide_out z]
          exact un.frzs b o u (by rw [lay_out z]; exact e)
        · have z := nin b _ e
          rw [hide_out z]
          exact un.tbls b ps (by rw [lay_out z]; exact e)
        · obtain ⟨o, y⟩ := ext b z
          exact ⟨o, (same b z).trans y⟩
  · have z : ¬ inC cl b := fun y => by
      rw [(old b y).1] at hb'
      cases hb'
    rw [lay_out z]
    exact (e0.bs b o hb').2
  · have z : ¬ inC cl b := fun y => (old b y).2 hb'
    rw [lay_out z]
    exact e0.frf b hb'
end
/-! ### the rules over them -/
/-- a function value, by what its call is worth -/
structure Callable (P : Program) (w : World) (K : PySem.W.Frag) (mg : Str → Option Value) (base : Heap) (k : Nat) (f : Addr) (sp : Sp) : Prop where
  run : ∀ (A : Around) (outer : List Env) (s : Shared) (H : Hp) (us : List Value) (vs : List V) (Q : VK) (E : XK), Room k A → Env0 P w K mg base A outer s H → Vals vs us → sp vs H Q E → codeAny (model P w) A (.call (.ref f) ⟨us, []⟩) (CR CX0 outer P w H s Q E) s
theorem Callable.of {P : Program} {w : World} {K : PySem.W.Frag} {mg : Str → Option Value} {base : Heap} {k : Nat} {f : Addr} {F : NF} {ps fr : List Str} {sp : List (Option V) → Sp} (Fn : NOk P w K mg base CX0 k f F ps fr sp) :
    Callable P w K mg base k f (fun vs H Q E => ∃ ws, H f = some (FnO f F) ∧ H F.c = some (CodeO F.c F.qual) ∧ CellsT H F.cl fr ws ∧ sp ws vs (hide (inC F.cl) H) (fun v H' => (∀ b, inC F.cl b → H' b = none) → Q v (back (inC F.cl) H H')) E) :=
  ⟨fun A outer s H us vs Q E hr e0 r q => by
    obtain ⟨ws, hf, hc, C, q⟩ := q
    exact run_cell Fn hr e0 hf hc C r q⟩
def tCallV (P : Program) (w : World) (K : PySem.W.Frag) (mg : Str → Option Value) (base : Heap) (k i : Nat) (t : TA) : TE := fun σ H Q => ∃ (f : Addr) (F : NF) (sp : Sp), σ[i]? = some (some (.ref f)) ∧ H f = some (FnO f F) ∧ Callable P w K mg base k f sp ∧ t σ H fun vs H1 => H1 f = some (FnO f F) ∧ sp vs H1 Q E0
section
variable {X : Cx} {e : Expr} {es : List Expr} {t : TA} {x : Str} {p pos : Pos} {i k : Nat}
theorem pe_callV (P : Program) (w : World) (K : PySem.W.Frag) (mg : Str → Option Value) (base : Heap) (hP : X.prog = P) (hw : X.w = w) (hK : X.K = K) (hmg : X.mg = mg) (hba : X.base = base) (room : Room k X.A) (hN : X.N[i]? = some x) (vis : Vis X.env.scope x) (args : PA X (e :: es) t) (nd : (x == ("__debug__" : Str)) = false := by decide)
    (nc : (x == ("__classdict__" : Str)) = false := by decide) (st : starEach (e :: es) X.env = (false, eval e X.env) :: starEach es X.env := by rfl) (pl : (backTo pos (starEach es X.env)).any (·.1) = false := by rfl) : PE X (.Call (.Name x p) (e :: es) [] pos) (tCallV P w K mg base k i t) := by
  subst hP hw hK hmg hba
  refine ⟨fun pins s σ H Q I h => ?_⟩
  obtain ⟨f, F, sp, hs, hf, ca, ht⟩ := h
  refine wpAny_Call_Name_kw (thn ((pe_var (pos := p) hN vis nd nc).run pins s σ H (fun v H1 => v = .ref f ∧ H1 = H) I ⟨.ref f, hs, rfl, rfl⟩) fun u s1 z => ?_)
  obtain ⟨v, H1, I1, r1, ev, eH⟩ := z
  subst ev
  rw [eH] at I1
  obtain rfl : u = Value.ref f := r1
  refine PySem.W.callWith_F (first := []) (fnAt_of I1 hf) (thn (args.run pos pins s1 σ H _ I1 ht) fun us s2 z => ?_) st pl
  obtain ⟨vs, H2, I2, r, h1, q⟩ := z
  refine ⟨fnAt_of I2 h1, ?_⟩
  show wpAny _ _ (call (.ref f) us) _ _ _
  refine wpAny_call (codeAny_mono (ca.run X.A X.stack s2 H2 us vs Q E0 room I2.env0 r q) fun res s' z => ?_)
  cases res with
  | error er => exact z.elim
  | ok fl =>
    cases fl with
    | ret u => exact I2.after z
    | next => exact z.elim
    | brk => exact z.elim
    | cont => exact z.elim
def tCallTr (OK : Prop) (cl : List (Str × Addr)) (fr : List Str) (js : List Nat) (n : Nat) (sp : Sp) (t : TA) : TE := fun σ H Q => t σ H fun vs H1 => vs.length = n ∧ (OK → ∀ H2 : Hp, (∀ b, ¬ inC cl b → H2 b = H1 b) → (∀ b, inC cl b → H1 b = none) → CellsT H2 cl fr (js.map (slotAt σ)) → sp vs H2 (fun v H' => (∀ b, inC cl b → H' b = H2 b) ∧ Q v (hide (inC cl) H')) E0)
theorem pe_callTr {f : Addr} {fd : FuncData} {ps fr : List Str} {js : List Nat} {sp : Sp} (G : FnOk X.prog X.w X.K X.mg X.base CX0 k f fd ps sp) (room : Room k X.A) (hg : Gl X x) (hm : X.mg x = some (.ref f)) (kp : PySem.W.keepIn X.K (.ref f) = true) (bi : Binds X.K fd ps []) (cp : X.Ok → Caps X X.env.cells fr js) (allfn : ∀ y, X.fn y = true) (args : PA X (e :: es) t)
    (nd : (x == ("__debug__" : Str)) = false := by decide) (st : starEach (e :: es) X.env = (false, eval e X.env) :: starEach es X.env := by rfl) (pl : (backTo pos (starEach es X.env)).any (·.1) = false := by rfl) : PE X (.Call (.Name x p) (e :: es) [] pos) (tCallTr X.Ok X.env.cells fr js ps.length sp t) := by
  refine ⟨fun pins s σ H Q I h => ?_⟩
  refine wpAny_Call_Name_kw (ld_glob I hg hm ?_ nd)
  refine PySem.W.callWith_K (h₀ := X.base) I.ok.mod.kin kp (thn (args.run pos pins s σ H _ I h) fun us s1 z => ?_) st pl
  obtain ⟨vs, H1, I1, r, hl, q⟩ := z
  refine ⟨I1.kIn, ?_⟩
  have C := cells_of I1 (cp I1.ok)
  have young : ∀ b, inC X.env.cells b → X.s_0.heap.objs.size ≤ b := fun b z => by
    obtain ⟨y, hy⟩ := z
    exact I1.ok.cab y b (allfn y) hy
  have old : ∀ b, inC X.env.cells b → X.base.get? b = none ∧ b ∉ frs X.stack := fun b z => by
    have yb := young b z
    refine ⟨?_, fun hb => ?_⟩
    · cases g : X.base.get? b with
      | none => rfl
      | some o => exact absurd (Nat.lt_of_lt_of_le (Heap.lt_size (I1.ok.bs b o g).1) yb) (Nat.lt_irrefl _)
    · have nofs : b ∉ frs X.outer := fun hb => by
        obtain ⟨_, o, ho, _⟩ := I1.ok.funs.mem hb
        exact absurd (Nat.lt_of_lt_of_le (Heap.lt_size ho) yb) (Nat.lt_irrefl _)
      rcases I1.ok.stk with z' | ⟨z', z2⟩
      · rw [z'] at hb
        exact nofs hb
      · rw [z'] at hb
        unfold frs at hb
        rw [List.filterMap_cons, z2] at hb
        rcases List.mem_cons.mp hb with y | y
        · obtain ⟨yy, hy⟩ := z
          exact I1.cne yy b hy y
        · exact nofs y
  refine wpAny_call (codeAny_mono (run_track G room I1.env0 (bi s1 us I1.kIn (by rw [List.append_nil, ← r.length]; exact hl)) (by rw [List.append_nil]; exact r) C old fun H2 a b => q I1.ok H2 a (fun b z => ?_) b) fun res s' z => ?_)
  · obtain ⟨y, hy⟩ := z
    exact (C.all y b hy).1
  · cases res with
    | error er => exact z.elim
    | ok fl =>
      cases fl with
      | ret u => exact I1.after z
      | next => exact z.elim
      | brk => exact z.elim
      | cont => exact z.elim
end
/-! ### a def whose code object is known: it makes functions of its own -/
structure FunC (K : PySem.W.Frag) (x qual : Str) (st : Stmt) (f : Addr) (fd : FuncData) (c : Addr) : Prop where
  ex : ∃ (oc : Value) (od : Option Addr) (kV doc pm : Value) (an : Option Addr) (ct : Value) (osl : Array (Option Value)), fd = PySem.W.fnOf x qual (defArgs st) (defBody st) (defScope st) .none kV doc pm an (.ref c) ct ∧ K.lookup f = some ⟨oc, od, .func fd, osl⟩ ∧ PySem.W.codeIn K (.ref c) qual = true
theorem FunC.ok {P : Program} {w : World} {K : PySem.W.Frag} {mg : Str → Option Value} {base : Heap} {x qual : Str} {st : Stmt} {f c : Addr} {fd : FuncData} {N ps : List Str} {k : Nat} {sp : Sp} (F : FunC K x qual st f fd c) (S : FnScope N ps (defScope st)) (len : ∀ vs H Q E, sp vs H Q E → vs.length = ps.length)
    (body : ∀ (A : Around) (outer : List Env) (s : Shared) (H : Hp) (vs : List V) (Q : VK) (E : XK), Room k (A.deeper (envOfC qual (defScope st) s.heap.objs.size f (.ref c))) → sp vs H Q E → ∃ t, PSs (cxOf CX0 P w K mg base N qual (defScope st) f (.ref c) A outer s H E).nox (defBody st) t ∧ t { nx := fun _ H' => Q .non H', rt := Q } (start N vs) H) : FnOk P w K mg base CX0 (k + 1) f fd ps sp := by
  obtain ⟨oc, od, kV, doc, pm, an, ct, osl, rfl, lk, hcd⟩ := F.ex
  refine fn_of lk hcd S len fun A outer s H vs Q E hr hsp => ?_
  obtain ⟨t, h, q⟩ := body A outer s H vs Q E hr hsp
  exact ⟨t, h.nox, q⟩
def lineOf : Stmt → Nat
  | .FunctionDef _ _ _ _ _ _ _ _ _ p => p.line
  | _ => 0
end LH

namespace LH
open PySem PySem.Spec PyProof.Rows L2
/-! ### a partition of the states: groups by number, homes by state -/
structure Part (n : Nat) (gs : List (List Nat)) (hl : List Nat) : Prop where
  len : hl.length = n
  mem : ∀ (h : Nat) (g : List Nat), gs[h]? = some g → ∀ s : Nat, s ∈ g ↔ hl[s]? = some h
  lt : ∀ (s h : Nat), hl[s]? = some h → h < gs.length
  nd : ∀ g ∈ gs, g.Nodup
  ne : ∀ g ∈ gs, g ≠ []
structure Split (n : Nat) (gs gs' : List (List Nat)) (hl hl' : List Nat) (home : Nat) (hit : List Nat) : Prop where
  grow : gs.length ≤ gs'.length
  part : Part n gs' hl'
  map : ∃ B : Nat → Bool, (∀ s : Nat, hl'[s]? = if hl[s]? = some home ∧ B s = true then some gs.length else hl[s]?) ∧ ((∀ s : Nat, hl[s]? = some home → (B s = true ↔ s ∈ hit)) ∨ (∀ s : Nat, hl[s]? = some home → (B s = true ↔ s ∉ hit)))
def GrpAt (H : Hp) (gr : Addr) (as : List Addr) (gs : List (List Nat)) : Prop := H gr = some (.lst (vr as)) ∧ as.Nodup ∧ as.length = gs.length ∧ ∀ (i : Nat) (a : Addr) (g : List Nat), as[i]? = some a → gs[i]? = some g → H a = some (.dK (dk g))
theorem GrpAt.dict {H : Hp} {gr : Addr} {as : List Addr} {gs : List (List Nat)} (h : GrpAt H gr as gs) {a : Addr} (ha : a ∈ as) : ∃ g, H a = some (.dK (dk g)) := by
  obtain ⟨i, hi⟩ := List.mem_iff_getElem?.mp ha
  have hl : i < gs.length := by
    rw [← h.2.2.1]
    exact (List.getElem?_eq_some_iff.mp hi).1
  exact ⟨gs[i], h.2.2.2 i a _ hi (List.getElem?_eq_getElem hl)⟩
theorem GrpAt.not {H : Hp} {gr : Addr} {as : List Addr} {gs : List (List Nat)} (h : GrpAt H gr as gs) {a : Addr} {o : HO} (ha : H a = some o) (no : ∀ g, o ≠ .dK (dk g)) : a ∉ as := fun z => by
  obtain ⟨g, e⟩ := h.dict z
  rw [ha] at e
  exact no g (Option.some.inj e)
/-- the frame: what is not the groups', not the homes' -/
def OffG (gr ho : Addr) (as : List Addr) (H H' : Hp) : Prop := ∀ b o, b ≠ gr → b ≠ ho → b ∉ as → H b = some o → H' b = some o
theorem Part.many {n : Nat} {gs : List (List Nat)} {hl : List Nat} (p : Part n gs hl) : gs.length ≤ n := by
  have key : ∀ (k : Nat) (hk : k ≤ gs.length), ∃ xs : List Nat, xs.length = k ∧ xs.Nodup ∧ ∀ x ∈ xs, ∃ h, h < k ∧ hl[x]? = some h := by
    intro k
    induction k with
    | zero => exact fun _ => ⟨[], rfl, List.nodup_nil, fun _ h => nomatch h⟩
    | succ k ih =>
      intro hk
      obtain ⟨xs, l, nd, q⟩ := ih (by omega)
      have hg : gs[k]? = some gs[k] := List.getElem?_eq_getElem (by omega)
      cases eg : gs[k] with
      | nil => exact absurd eg (p.ne _ (List.getElem_mem _))
      | cons y r =>
        have hy : hl[y]? = some k := (p.mem k _ hg y).mp (by rw [eg]; exact List.mem_cons_self ..)
        refine ⟨y :: xs, by rw [List.length_cons, l], List.nodup_cons.mpr ⟨fun z => ?_, nd⟩, fun x hx => ?_⟩
        · obtain ⟨h, hlt, e⟩ := q y z
          rw [hy] at e
          cases e
          omega
        · rcases List.mem_cons.mp hx with rfl | hx
          · exact ⟨k, Nat.lt_succ_self k, hy⟩
          · obtain ⟨h, hlt, e⟩ := q x hx
            exact ⟨h, by omega, e⟩
  obtain ⟨xs, l, nd, q⟩ := key gs.length (Nat.le_refl _)
  have := len_le_of_sub (ys := List.range n) nd fun x hx => by
    obtain ⟨h, _, e⟩ := q x hx
    have := (List.getElem?_eq_some_iff.mp e).1
    rw [p.len] at this
    exact List.mem_range.mpr this
  rw [List.length_range] at this
  omega
/-- the states of mv get a number of their own -/
def rehome (hl mv : List Nat) (new : Nat) : List Nat := mv.foldl (fun l s => l.set s new) hl
theorem rehome_len (new : Nat) : ∀ (mv hl : List Nat), (rehome hl mv new).length = hl.length
  | [], _ => rfl
  | s :: r, hl => by
    show (rehome (hl.set s new) r new).length = _
    rw [rehome_len new r, List.length_set]
theorem rehome_get (new : Nat) : ∀ (mv hl : List Nat) (s : Nat), (∀ x ∈ mv, x < hl.length) → (rehome hl mv new)[s]? = if s ∈ mv then some new else hl[s]?
  | [], _, _, _ => by simp [rehome]
  | x :: r, hl, s, h => by
    have ih := rehome_get new r (hl.set x new) s fun y hy => by
      rw [List.length_set]
      exact h y (List.mem_cons_of_mem _ hy)
    show (rehome (hl.set x new) r new)[s]? = _
    rw [ih]
    have hx := h x (List.mem_cons_self ..)
    by_cases e : s ∈ r
    · rw [if_pos e, if_pos (List.mem_cons_of_mem _ e)]
    · rw [if_neg e]
      by_cases e2 : s = x
      · subst e2
        rw [if_pos (List.mem_cons_self ..), List.getElem?_set_self hx]
      · rw [if_neg (fun z => (List.mem_cons.mp z).elim e2 e), List.getElem?_set_ne (Ne.symm e2)]
theorem rehome_snoc (hl mv : List Nat) (s new : Nat) : rehome hl (mv ++ [s]) new = (rehome hl mv new).set s new := by
  unfold rehome
  rw [List.foldl_append]
  rfl
/-- a group is parted into rest (it keeps the number) and mv (a new one) -/
theorem part_split {n home : Nat} {gs : List (List Nat)} {hl g rest mv hit : List Nat} (p : Part n gs hl) (hg : gs[home]? = some g) (nr : rest.Nodup) (nm : mv.Nodup) (r0 : rest ≠ []) (m0 : mv ≠ [])
    (h : ((∀ s, s ∈ mv ↔ s ∈ g ∧ s ∈ hit) ∧ (∀ s, s ∈ rest ↔ s ∈ g ∧ s ∉ hit)) ∨ ((∀ s, s ∈ rest ↔ s ∈ g ∧ s ∈ hit) ∧ (∀ s, s ∈ mv ↔ s ∈ g ∧ s ∉ hit))) : Split n gs (gs.set home rest ++ [mv]) hl (rehome hl mv gs.length) home hit := by
  have hh : home < gs.length := (List.getElem?_eq_some_iff.mp hg).1
  have mg : ∀ s, s ∈ mv → s ∈ g := fun s hs => by
    rcases h with h | h
    · exact ((h.1 s).mp hs).1
    · exact ((h.2 s).mp hs).1
  have rg : ∀ s, s ∈ rest ↔ s ∈ g ∧ s ∉ mv := fun s => by
    rcases h with h | h
    · rw [h.2 s, h.1 s]
      exact ⟨fun ⟨a, b⟩ => ⟨a, fun c => b c.2⟩, fun ⟨a, b⟩ => ⟨a, fun c => b ⟨a, c⟩⟩⟩
    · rw [h.1 s, h.2 s]
      refine ⟨fun ⟨a, b⟩ => ⟨a, fun c => c.2 b⟩, fun ⟨a, b⟩ => ⟨a, ?_⟩⟩
      by_cases q : s ∈ hit
      · exact q
      · exact absurd ⟨a, q⟩ b
  have gm : ∀ s, s ∈ g ↔ hl[s]? = some home := p.mem home g hg
  have lt : ∀ x ∈ mv, x < hl.length := fun x hx => (List.getElem?_eq_some_iff.mp ((gm x).mp (mg x hx))).1
  have get := fun s => rehome_get gs.length mv hl s lt
  refine ⟨by rw [List.length_append, List.length_set]; omega, ⟨?_, fun k g' hk s => ?_, fun s k hs => ?_, fun g' hg' => ?_, fun g' hg' => ?_⟩, fun s => decide (s ∈ mv), fun s => ?_, ?_⟩
  · rw [rehome_len, p.len]
  · rw [get s]
    by_cases hk1 : k < gs.length
    · rw [List.getElem?_append_left (by rw [List.length_set]; exact hk1)] at hk
      by_cases hkh : k = home
      · subst hkh
        rw [List.getElem?_set_self hk1] at hk
        cases hk
        rw [rg s, gm s]
        by_cases e : s ∈ mv
        · rw [if_pos e]
          exact ⟨fun z => absurd e z.2, fun z => by
            have := Option.some.inj z
            omega⟩
        · rw [if_neg e]
          exact ⟨fun z => z.1, fun z => ⟨z, e⟩⟩
      · rw [List.getElem?_set_ne (Ne.symm hkh)] at hk
        rw [p.mem k g' hk s]
        by_cases e : s ∈ mv
        · rw [if_pos e]
          have := (gm s).mp (mg s e)
          rw [this]
          exact ⟨fun z => absurd (Option.some.inj z).symm hkh, fun z => by
            have := Option.some.inj z
            omega⟩
        · rw [if_neg e]
    · have ek : k = gs.length := by
        have := (List.getElem?_eq_some_iff.mp hk).1
        rw [List.length_append, List.length_set] at this
        have : k < gs.length + 1 := this
        omega
      subst ek
      rw [List.getElem?_append_right (by rw [List.length_set]; exact Nat.le_refl _), List.length_set, Nat.sub_self] at hk
      cases hk
      by_cases e : s ∈ mv
      · rw [if_pos e]
        exact ⟨fun _ => rfl, fun _ => e⟩
      · rw [if_neg e]
        exact ⟨fun z => absurd z e, fun z => absurd (p.lt s _ z) (Nat.lt_irrefl _)⟩
  · rw [get s] at hs
    rw [List.length_append, List.length_set]
    show k < gs.length + 1
    by_cases e : s ∈ mv
    · rw [if_pos e] at hs
      cases hs
      omega
    · rw [if_neg e] at hs
      have := p.lt s k hs
      omega
  · rcases List.mem_append.mp hg' with z | z
    · rcases List.mem_or_eq_of_mem_set z with y | y
      · exact p.nd _ y
      · rw [y]; exact nr
    · rw [List.mem_singleton.mp z]; exact nm
  · rcases List.mem_append.mp hg' with z | z
    · rcases List.mem_or_eq_of_mem_set z with y | y
      · exact p.ne _ y
      · rw [y]; exact r0
    · rw [List.mem_singleton.mp z]; exact m0
  · rw [get s]
    by_cases e : s ∈ mv
    · rw [if_pos e, if_pos ⟨(gm s).mp (mg s e), decide_eq_true e⟩]
    · rw [if_neg e, if_neg (fun z => e (of_decide_eq_true z.2))]
  · rcases h with h | h
    · exact .inl fun s hs => by
        rw [decide_eq_true_iff, h.1 s, gm s]
        exact ⟨fun z => z.2, fun z => ⟨hs, z⟩⟩
    · exact .inr fun s hs => by
        rw [decide_eq_true_iff, h.2 s, gm s]
        exact ⟨fun z => z.2, fun z => ⟨hs, z⟩⟩
theorem split_none {n home : Nat} {gs : List (List Nat)} {hl g hit : List Nat} (p : Part n gs hl) (hg : gs[home]? = some g) (h : ∀ s ∈ g, s ∈ hit) : Split n gs gs hl hl home hit :=
  ⟨Nat.le_refl _, p, fun _ => false, fun s => by rw [if_neg (fun z => Bool.false_ne_true z.2)], .inr fun s hs => ⟨fun z => absurd z Bool.false_ne_true, fun z => absurd (h s ((p.mem home g hg s).mpr hs)) z⟩⟩
end LH

namespace LH
open PySem PySem.Spec PyProof.Rows L2
theorem int_at {ns : List Nat} {i : Nat} {x : V} (h : (vi ns)[i]? = some x) : ∃ s, ns[i]? = some s ∧ x = .int (s : Int) := by
  rw [List.getElem?_map] at h
  cases e : ns[i]? with
  | none =>
    rw [e] at h
    cases h
  | some s =>
    rw [e] at h
    cases h
    exact ⟨s, rfl, rfl⟩
theorem take_snoc {α : Type} {xs : List α} {i : Nat} {x : α} (h : xs[i]? = some x) : xs.take (i + 1) = xs.take i ++ [x] := by
  rw [List.take_add_one, h]
  rfl
theorem notin_take {xs : List Nat} (nd : xs.Nodup) {i s : Nat} (h : xs[i]? = some s) : s ∉ xs.take i := fun z => by
  have hi := (List.getElem?_eq_some_iff.mp h).1
  obtain ⟨j, hj⟩ := List.mem_iff_getElem?.mp z
  have hji : j < i := by
    have := (List.getElem?_eq_some_iff.mp hj).1
    rw [List.length_take] at this
    omega
  rw [List.getElem?_take_of_lt hji] at hj
  have := nd_ix nd hj h
  omega
theorem filt_step {g hit : List Nat} {i s : Nat} (h : hit[i]? = some s) : (g.filter fun a => decide (a ∉ hit.take i)).filter (fun a => decide (a ≠ s)) = g.filter fun a => decide (a ∉ hit.take (i + 1)) := by
  rw [List.filter_filter]
  refine List.filter_congr fun a _ => ?_
  rw [take_snoc h, Bool.eq_iff_iff]
  simp [not_or, and_comm]
theorem ixN_nat {n i : Nat} (h : i < n) : ixN n (i : Int) = some i := by
  unfold ixN
  simp
  omega
theorem vi_set (ns : List Nat) (i x : Nat) : (vi ns).set i (.int (x : Int)) = vi (ns.set i x) := by
  show List.set (List.map _ ns) i _ = List.map _ (ns.set i x)
  rw [List.map_set]
theorem vr_set (as : List Addr) (i : Nat) (x : Addr) : (vr as).set i (.ref x) = vr (as.set i x) := by
  show List.set (List.map _ as) i _ = List.map _ (as.set i x)
  rw [List.map_set]
theorem nodup_set {as : List Addr} {i : Nat} {x : Addr} (nd : as.Nodup) (hx : x ∉ as) : (as.set i x).Nodup := by
  rw [List.nodup_iff_pairwise_ne] at *
  induction as generalizing i with
  | nil => simp
  | cons a r ih =>
    have h2 := List.pairwise_cons.mp nd
    cases i with
    | zero =>
      refine List.Pairwise.cons (fun b hb e => hx ?_) h2.2
      rw [e]
      exact List.mem_cons_of_mem _ hb
    | succ i =>
      refine List.Pairwise.cons (fun b hb e => ?_) (ih (i := i) h2.2 fun z => hx (List.mem_cons_of_mem _ z))
      rcases List.mem_or_eq_of_mem_set hb with y | y
      · exact h2.1 b y e
      · exact hx (by rw [← y, ← e]; exact List.mem_cons_self ..)
theorem two_mul_len (n : Nat) : (2 : Int) * (n : Int) = ((2 * n : Nat) : Int) := by omega
section
variable {P : Program} {w : World} {K : PySem.W.Frag} {mg : Str → Option Value} {base : Heap}
def sp_split_group : Sp := fun vs H Q _ => ∃ (gr ho ht : Addr) (home n : Nat) (as : List Addr) (gs : List (List Nat)) (hl hit : List Nat), vs = [.ref gr, .ref ho, .int (home : Int), .ref ht] ∧ GrpAt H gr as gs ∧ H ho = some (.lst (vi hl)) ∧ H ht = some (.lst (vi hit)) ∧ gr ≠ ho ∧ ht ≠ gr ∧ ht ≠ ho ∧
  Part n gs hl ∧ n ≤ 1000000 ∧ hit.Nodup ∧ hit ≠ [] ∧ (∀ s ∈ hit, hl[s]? = some home) ∧
  ∀ H' as' gs' hl', GrpAt H' gr as' gs' → H' ho = some (.lst (vi hl')) → Split n gs gs' hl hl' home hit → OffG gr ho as H H' → (∀ a ∈ as', a ∈ as ∨ H a = none) → Q .non H'
theorem ok_split_group (T : TX K mg) : FnOk P w K mg base CX0 1 T.a_split_group T.fd_split_group ["groups", "homes", "home", "hit"] sp_split_group := by
  refine T.F_split_group.ok sc_split_group (fun vs H Q E h => ?_) (fun cdv A outer s H vs Q E hr h => ?_)
  · obtain ⟨gr, ho, ht, home, n, as, gs, hl, hit, rfl, _⟩ := h
    rfl
  · obtain ⟨gr, ho, ht, home, n, as, gs, hl, hit, rfl, hG, hho, hht, ngh, ntg, nth, hP, hn, nd, h0, hsub, q⟩ := h
    refine ⟨_, (pss_cons (ps_set (i := 4) sc_split_group.nd rfl (Or.inl rfl) (pe_ix (ix_listK K rfl) (pv 0) (pv 2) (fun _ _ => rfl)))
      (pss_cons (ps_if (pt_cmpR op_eq (pe_callB (call_lenK K rfl) (by rfl) T.m_len (by decide +kernel) (pa_cons (pv 3) pa_nil)) (pe_callB call_lenD (by rfl) T.m_len (by decide +kernel) (pa_cons (pv 4) pa_nil)) (nomark _))
        (pss_one ps_retN)
        pss_nil)
      (C8.pss_cut (ps_if (pt_cmpR op_le (pe_op op_mul pe_int (pe_callB (call_lenK K rfl) (by rfl) T.m_len (by decide +kernel) (pa_cons (pv 3) pa_nil))) (pe_callB call_lenD (by rfl) T.m_len (by decide +kernel) (pa_cons (pv 4) pa_nil)) (nomark _))
        (pss_cons (ps_setDc (i := 5) (own := [("state", 6)]) (g := gName 6) (tt := tYes) (by rfl) sc_split_group.nd rfl rfl (sw_trueD rfl rfl rfl (by decide +kernel)) (pi_listK K rfl (pv 3)) (blkOk_by (own := [("state", 6)]) (N := N_split_group) (by kernel_rfl)) (fun _ _ _ _ _ => (pg_name (i := 6) sc_split_group.nd rfl (Or.inl rfl))) (fun _ _ _ _ _ => pts_nil) (fun _ _ _ _ _ => (pv 6)) (fun _ _ _ _ _ => pe_bl))
          (pss_one (ps_for PassesOwn.never rfl (pi_listK K rfl (pv 3)) (pg_name (i := 6) sc_split_group.nd rfl (Or.inl rfl))
            (pss_one (ps_ddel (pv 4) (pv 6))))))
        (pss_cons (ps_set (i := 7) sc_split_group.nd rfl (Or.inr rfl) (pe_dc (own := [("state", 6)]) (g := gName 6) (tt := tYes) (by rfl) sc_split_group.nd (pi_listK K rfl (pv 3)) (blkOk_by (own := [("state", 6)]) (N := N_split_group) (by kernel_rfl)) (fun _ _ _ _ _ => (pg_name (i := 6) sc_split_group.nd rfl (Or.inl rfl))) (fun _ _ _ _ _ => pts_nil) (fun _ _ _ _ _ => (pv 6)) (fun _ _ _ _ _ => pe_bl)))
          (pss_cons (ps_lock (ps_setDc (i := 5) (own := [("state", 6)]) (g := gName 6) (by rfl) sc_split_group.nd rfl rfl (sw_trueD rfl rfl rfl (by decide +kernel)) (pi_keys (pv 4)) (blkOk_by (own := [("state", 6)]) (N := N_split_group) (by kernel_rfl)) (fun _ _ _ _ _ => (pg_name (i := 6) sc_split_group.nd rfl (Or.inl rfl))) (fun _ _ _ _ _ => (pts_one (pt_cmp (pc_dnotin (hu_of hr) (pv 6) (pv 7))))) (fun _ _ _ _ _ => (pv 6)) (fun _ _ _ _ _ => pe_bl)))
          (pss_one (ps_asg (pv 7) (pg_sub (pv 0) (pv 2) set_list))))))
      (pss_cons (ps_lock (ps_for PassesOwn.never rfl (pi_keys (pv 5)) (pg_name (i := 6) sc_split_group.nd rfl (Or.inl rfl))
        (pss_one (ps_asg (pe_callB (call_lenK K rfl) (by rfl) T.m_len (by decide +kernel) (pa_cons (pv 0) pa_nil)) (pg_sub (pv 1) (pv 6) set_list)))))
      (pss_one (ps_expr (pe_bmK K rfl PySem.F.plainAttrs_list PySem.F.slot_list_append PySem.F.type_list_append mt_append (pv 0) (pa_cons (pv 5) pa_nil)))))))), ?_⟩
    obtain ⟨hgr, nda, hlen, hdk⟩ := id hG
    obtain ⟨s0, hs0⟩ : ∃ s0, s0 ∈ hit := List.exists_mem_of_ne_nil _ h0
    have hhome : home < gs.length := hP.lt s0 home (hsub s0 hs0)
    have hg : gs[home]? = some gs[home] := List.getElem?_eq_getElem hhome
    have haa : as[home]? = some as[home] := List.getElem?_eq_getElem (by omega)
    generalize gs[home] = g at hg
    generalize as[home] = a at haa
    have ha : H a = some (.dK (dk g)) := hdk home a g haa hg
    have ama : a ∈ as := List.mem_of_getElem? haa
    have gm : ∀ s, s ∈ g ↔ hl[s]? = some home := hP.mem home g hg
    have ndg : g.Nodup := hP.nd g (List.mem_of_getElem? hg)
    have hsg : ∀ s ∈ hit, s ∈ g := fun s hs => (gm s).mpr (hsub s hs)
    have lg : g.length ≤ n := by
      have := len_le_of_sub (ys := List.range n) ndg fun x hx => by
        have := (List.getElem?_eq_some_iff.mp ((gm x).mp hx)).1
        rw [hP.len] at this
        exact List.mem_range.mpr this
      rw [List.length_range] at this
      exact this
    have lh : hit.length ≤ g.length := len_le_of_sub nd hsg
    have nga : a ≠ gr := ne_of ha hgr (by intro z; cases z)
    have nha : a ≠ ho := ne_of ha hho (by intro z; cases z)
    have nta : a ≠ ht := ne_of ha hht (by intro z; cases z)
    have eva : (vr as)[home]? = some (.ref a) := by
      rw [List.getElem?_map, haa]
      rfl
    -- members
    refine ⟨.ref gr, rfl, .int (home : Int), rfl, gr, _, (home : Int), .ref a, rfl, rfl, .inl (.inl hgr), atI_nat eva, ?_⟩
    refine ⟨.ref ht, rfl, ht, _, rfl, .inl (.inl (.inl hht)), .ref a, rfl, a, _, rfl, ha, rfl, _, rfl, ite2 (fun e => ?_) (fun e => ?_)⟩
    · have e1 := V.int.inj (of_decide_eq_true e)
      rw [List.length_map, List.length_map] at e1
      exact q H as gs hl hG hho (split_none hP hg (all_of_len nd hsg (by omega))) (fun _ _ _ _ _ z => z) (fun a z => .inl z)
    · have hlt : hit.length < g.length := by
        have : ¬ hit.length = g.length := fun z => e (decide_eq_true (by rw [List.length_map, List.length_map, z]))
        omega
      obtain ⟨s1, hs1, hs1'⟩ : ∃ s1, s1 ∈ g ∧ s1 ∉ hit := by
        by_cases z : ∃ s1, s1 ∈ g ∧ s1 ∉ hit
        · exact z
        · have := len_le_of_sub ndg fun x hx => by
            by_cases y : x ∈ hit
            · exact y
            · exact absurd ⟨x, hx, y⟩ z
          omega
      refine ⟨fun σ' H' => ∃ dm as2 rest mv y4 y6 y7, σ' = [some (.ref gr), some (.ref ho), some (.int (home : Int)), some (.ref ht), y4, some (.ref dm), y6, y7] ∧ GrpAt H' gr as2 (gs.set home rest) ∧ H' ho = some (.lst (vi hl)) ∧ H' dm = some (.dK (dk mv)) ∧ H dm = none ∧ dm ∉ as2 ∧ OffG gr ho as H H' ∧ (∀ a ∈ as2, a ∈ as ∨ H a = none) ∧
          rest.Nodup ∧ mv.Nodup ∧ rest ≠ [] ∧ mv ≠ [] ∧ mv.length ≤ n ∧ (((∀ s, s ∈ mv ↔ s ∈ g ∧ s ∈ hit) ∧ (∀ s, s ∈ rest ↔ s ∈ g ∧ s ∉ hit)) ∨ ((∀ s, s ∈ rest ↔ s ∈ g ∧ s ∈ hit) ∧ (∀ s, s ∈ mv ↔ s ∈ g ∧ s ∉ hit))), ?_, fun σ' H' hM => ?_⟩
      · refine ⟨.ref ht, rfl, ht, _, rfl, .inl (.inl (.inl hht)), 2, _, rfl, rfl, .inl ⟨by decide, by decide⟩, .ref a, rfl, a, _, rfl, ha, _, _, rfl, rfl, _, rfl, ite2 (fun _ => ?_) (fun _ => ?_)⟩
        · -- moved = {state: True for state in hit}
          refine ⟨.ref ht, rfl, ht, rfl, ⟨_, .inl (.inl hht)⟩, fun D nD => ?_⟩
          refine dc_it (walk_list (K := K) (a := ht) (xs := vi hit)) (fun i H' => H' = upd H D (.dK (dk (hit.take i)))) rfl (fun i H' _ hW => ?_) (fun i x H1 H1' hi hW hY => ?_) (fun H1 hW => ?_)
          · rw [hW]
            exact .inl (.inl (same_new nD _ _ hht))
          · obtain ⟨rfl, hx⟩ := hY
            subst hW
            obtain ⟨s2, hs2, rfl⟩ := int_at hx
            refine ⟨rfl, lcyes ?_⟩
            refine ⟨.int (s2 : Int), rfl, _, Sum.inl (s2 : Int), rfl, upd_same, ?_, ?_⟩
            · rw [List.length_map, List.length_take]
              exact Nat.lt_of_le_of_lt (show min i hit.length ≤ 1000000 by omega) (by decide)
            · rw [upd_upd, putK_dk (notin_take nd hs2), ← take_snoc hs2]
          · subst hW
            have et : hit.take (vi hit).length = hit := List.take_of_length_le (by rw [List.length_map]; exact Nat.le_refl _)
            rw [et]
            have da : a ≠ D := ne_of_none ha nD
            have dt : ht ≠ D := ne_of_none hht nD
            -- for state in hit: del members[state]
            refine ⟨.ref ht, rfl, ht, rfl, ⟨_, .inl (.inl (same_new nD _ _ hht))⟩, ?_⟩
            refine for_it (walk_list (K := K) (a := ht) (xs := vi hit)) (fun i σ H' => (H' a = some (.dK (dk (g.filter fun s => decide (s ∉ hit.take i)))) ∧ ∀ b, b ≠ a → H' b = upd H D (.dK (dk hit)) b) ∧ ∃ y6 y7, σ = [some (.ref gr), some (.ref ho), some (.int (home : Int)), some (.ref ht), some (.ref a), some (.ref D), y6, y7]) ⟨⟨?_, fun _ _ => rfl⟩, none, none, rfl⟩ (fun i σ H' _ hW => ?_) (fun i x σ H1 H1' hi hW hY => ?_) (fun σ H1 hW => ?_)
            · rw [upd_ne da, ha]
              have : (g.filter fun s => decide (s ∉ hit.take 0)) = g := by
                rw [List.take_zero]
                exact List.filter_eq_self.mpr fun a _ => by simp
              rw [this]
            · have := hW.1.2 ht (Ne.symm nta)
              refine .inl (.inl ?_)
              rw [this, upd_ne dt]
              exact hht
            · obtain ⟨⟨w1, w2⟩, y6, y7, rfl⟩ := hW
              obtain ⟨rfl, hx⟩ := hY
              obtain ⟨s2, hs2, rfl⟩ := int_at hx
              have hm2 := List.mem_of_getElem? hs2
              refine ⟨.ref a, rfl, .int (s2 : Int), rfl, a, _, Sum.inl (s2 : Int), rfl, w1, rfl, ?_, ⟨?_, ?_⟩, some (.int (s2 : Int)), y7, rfl⟩
              · rw [valV_dk, if_pos]
                · rfl
                · exact List.mem_filter.mpr ⟨hsg _ hm2, decide_eq_true (notin_take nd hs2)⟩
              · rw [upd_same, dropK_dk, filt_step hs2]
              · intro b hb
                rw [upd_ne hb]
                exact w2 b hb
            · obtain ⟨⟨w1, w2⟩, y6, y7, rfl⟩ := hW
              rw [et] at w1
              have nDas : D ∉ as := fun z => by
                obtain ⟨g', e'⟩ := hG.dict z
                rw [nD] at e'
                cases e'
              have w2' : ∀ b, b ≠ a → ∀ o, H b = some o → H1 b = some o := fun b hb o e => by
                rw [w2 b hb]
                exact same_new nD _ _ e
              refine ⟨D, as, g.filter fun s => decide (s ∉ hit), hit, _, y6, y7, rfl, ⟨w2' _ (Ne.symm nga) _ hgr, nda, by rw [List.length_set]; exact hlen, fun i b g' hb hg' => ?_⟩, w2' _ (Ne.symm nha) _ hho, ?_, nD, nDas, ?_, fun b hb => .inl hb, ndg.filter _, nd, ?_, h0, by omega, .inl ⟨fun s => ⟨fun z => ⟨hsg s z, z⟩, fun z => z.2⟩, fun s => by rw [List.mem_filter, decide_eq_true_iff]⟩⟩
              · by_cases hih : i = home
                · subst hih
                  rw [List.getElem?_set_self hhome] at hg'
                  cases hg'
                  rw [haa] at hb
                  cases hb
                  exact w1
                · rw [List.getElem?_set_ne (Ne.symm hih)] at hg'
                  refine w2' b (fun z => hih ?_) _ (hdk i b g' hb hg')
                  subst z
                  exact nd_ix nda hb haa
              · rw [w2 D (Ne.symm da), upd_same]
              · intro b o _ _ hb e'
                exact w2' b (fun z => hb (z ▸ ama)) o e'
              · intro z
                have : s1 ∈ (g.filter fun s => decide (s ∉ hit)) := List.mem_filter.mpr ⟨hs1, decide_eq_true hs1'⟩
                rw [z] at this
                cases this
        · -- kept = {state: True for state in hit}
          have nas : ∀ b, H b = none → b ∉ as := fun b nb z => by
            obtain ⟨g', e'⟩ := hG.dict z
            rw [nb] at e'
            cases e'
          refine ⟨.ref ht, rfl, ht, rfl, ⟨_, .inl (.inl hht)⟩, fun D nD => ?_⟩
          refine dc_it (walk_list (K := K) (a := ht) (xs := vi hit)) (fun i H' => H' = upd H D (.dK (dk (hit.take i)))) rfl (fun i H' _ hW => ?_) (fun i x H1 H1' hi hW hY => ?_) (fun H1 hW => ?_)
          · rw [hW]
            exact .inl (.inl (same_new nD _ _ hht))
          · obtain ⟨rfl, hx⟩ := hY
            subst hW
            obtain ⟨s2, hs2, rfl⟩ := int_at hx
            refine ⟨rfl, lcyes ?_⟩
            refine ⟨.int (s2 : Int), rfl, _, Sum.inl (s2 : Int), rfl, upd_same, ?_, ?_⟩
            · rw [List.length_map, List.length_take]
              exact Nat.lt_of_le_of_lt (show min i hit.length ≤ 1000000 by omega) (by decide)
            · rw [upd_upd, putK_dk (notin_take nd hs2), ← take_snoc hs2]
          · subst hW
            have et : hit.take (vi hit).length = hit := List.take_of_length_le (by rw [List.length_map]; exact Nat.le_refl _)
            rw [et]
            have da : a ≠ D := ne_of_none ha nD
            have a1 : upd H D (.dK (dk hit)) a = some (.dK (dk g)) := same_new nD _ _ ha
            -- moved = {state: True for state in members if state not in kept}
            refine ⟨a, .dK (dk g), a1, trivial, fun od => ?_⟩
            refine ⟨.ref a, rfl, a, od, rfl, .inl ⟨dk g, upd_same, fun D2 nD2 => ?_⟩⟩
            have ad2 : a ≠ D2 := ne_of_none upd_same nD2
            have n2 : upd H D (.dK (dk hit)) D2 = none := by
              rw [upd_ne (Ne.symm ad2)] at nD2
              exact nD2
            have dd : D ≠ D2 := ne_of_none upd_same n2
            have n2' : H D2 = none := by
              rw [upd_ne (Ne.symm dd)] at n2
              exact n2
            refine dc_it walk_keys (fun i H' => H' = upd (upd (upd H D (.dK (dk hit))) a (.frz od (.dK (dk g)))) D2 (.dK (dk ((g.take i).filter fun s => decide (s ∉ hit))))) rfl (fun i H' _ hW => ?_) (fun i x H1 H1' hi hW hY => ?_) (fun H1 hW => ?_)
            · rw [hW, upd_ne ad2, upd_same]
            · obtain ⟨rfl, k, v, hkv, rfl⟩ := hY
              obtain ⟨s2, hs2, rfl, rfl⟩ := dk_get hkv
              subst hW
              have eD : upd (upd (upd H D (.dK (dk hit))) a (.frz od (.dK (dk g)))) D2 (.dK (dk ((g.take i).filter fun s => decide (s ∉ hit)))) D = some (.dK (dk hit)) := by
                rw [upd_ne dd, upd_ne (Ne.symm da), upd_same]
              refine ⟨rfl, .int (s2 : Int), rfl, .ref D, rfl, D, _, rfl, DGet.k (k := Sum.inl (s2 : Int)) eD, _, rfl, ?_⟩
              rw [valV_dk]
              by_cases hin : s2 ∈ hit
              · rw [if_pos hin]
                refine iteF ?_
                rw [take_snoc hs2, List.filter_append]
                have : ([s2].filter fun s => decide (s ∉ hit)) = [] := by simp [hin]
                rw [this, List.append_nil]
              · rw [if_neg hin]
                refine iteT ?_
                refine ⟨.int (s2 : Int), rfl, _, Sum.inl (s2 : Int), rfl, upd_same, ?_, ?_⟩
                · rw [List.length_map]
                  refine Nat.lt_of_le_of_lt (List.length_filter_le _ _) ?_
                  rw [List.length_take]
                  exact Nat.lt_of_le_of_lt (show min i g.length ≤ 1000000 by omega) (by decide)
                · rw [upd_upd, take_snoc hs2, List.filter_append]
                  have : ([s2].filter fun s => decide (s ∉ hit)) = [s2] := by simp [hin]
                  rw [this, putK_dk]
                  intro z
                  exact notin_take ndg hs2 (List.mem_filter.mp z).1
            · subst hW
              have etg : g.take (dk g).length = g := List.take_of_length_le (by rw [List.length_map]; exact Nat.le_refl _)
              rw [etg]
              refine ⟨by rw [upd_ne ad2, upd_same], ?_⟩
              -- groups[home] = kept
              have eb : ∀ b, b ≠ a → b ≠ D → b ≠ D2 → upd (upd (upd (upd H D (.dK (dk hit))) a (.frz od (.dK (dk g)))) D2 (.dK (dk (g.filter fun s => decide (s ∉ hit))))) a (.dK (dk g)) b = H b := fun b h1 h2 h3 => by
                rw [upd_ne h1, upd_ne h3, upd_ne h1, upd_ne h2]
              have gD : gr ≠ D := ne_of_none hgr nD
              have gD2 : gr ≠ D2 := ne_of_none hgr n2'
              refine ⟨.ref D, rfl, .ref gr, rfl, .int (home : Int), rfl, gr, vr as, (home : Int), home, rfl, rfl, ?_, ixN_nat ?_, ?_⟩
              · rw [eb gr (Ne.symm nga) gD gD2]
                exact hgr
              · rw [List.length_map]
                omega
              · rw [vr_set]
                have nDas := nas D nD
                have nD2as := nas D2 n2'
                have eb2 : ∀ b, b ≠ gr → b ≠ a → b ≠ D → b ≠ D2 → upd (upd (upd (upd (upd H D (.dK (dk hit))) a (.frz od (.dK (dk g)))) D2 (.dK (dk (g.filter fun s => decide (s ∉ hit))))) a (.dK (dk g))) gr (.lst (vr (as.set home D))) b = H b := fun b h0 h1 h2 h3 => by
                  rw [upd_ne h0]
                  exact eb b h1 h2 h3
                have ins : ∀ b, b ∈ as.set home D → b ∈ as ∨ b = D := fun b hb => List.mem_or_eq_of_mem_set hb
                refine ⟨D2, as.set home D, hit, g.filter fun s => decide (s ∉ hit), _, _, _, rfl, ⟨upd_same, nodup_set nda nDas, by rw [List.length_set, List.length_set]; exact hlen, fun i b g' hb hg' => ?_⟩, ?_, ?_, n2', ?_, ?_, ?_, nd, ndg.filter _, h0, ?_, ?_, .inr ⟨fun s => ⟨fun z => ⟨hsg s z, z⟩, fun z => z.2⟩, fun s => by rw [List.mem_filter, decide_eq_true_iff]⟩⟩
                · by_cases hih : i = home
                  · subst hih
                    rw [List.getElem?_set_self hhome] at hg'
                    rw [List.getElem?_set_self (by omega)] at hb
                    cases hg'
                    cases hb
                    rw [upd_ne (Ne.symm gD), upd_ne (Ne.symm da), upd_ne dd, upd_ne (Ne.symm da), upd_same]
                  · rw [List.getElem?_set_ne (Ne.symm hih)] at hg' hb
                    have e3 := hdk i b g' hb hg'
                    rw [eb2 b (ne_of e3 hgr (by intro z; cases z)) (fun z => hih (by subst z; exact nd_ix nda hb haa)) (ne_of_none e3 nD) (ne_of_none e3 n2')]
                    exact e3
                · rw [eb2 ho (Ne.symm ngh) (Ne.symm nha) (ne_of_none hho nD) (ne_of_none hho n2')]
                  exact hho
                · rw [upd_ne (Ne.symm gD2), upd_ne (Ne.symm ad2), upd_same]
                · intro z
                  rcases ins _ z with y | y
                  · exact nD2as y
                  · exact dd y.symm
                · intro b o h1 h2 h3 e3
                  rw [eb2 b h1 (fun z => h3 (z ▸ ama)) (ne_of_none e3 nD) (ne_of_none e3 n2')]
                  exact e3
                · intro b hb
                  rcases ins _ hb with y | y
                  · exact .inl y
                  · exact .inr (y ▸ nD)
                · intro z
                  have : s1 ∈ (g.filter fun s => decide (s ∉ hit)) := List.mem_filter.mpr ⟨hs1, decide_eq_true hs1'⟩
                  rw [z] at this
                  cases this
                · exact Nat.le_trans (List.length_filter_le _ _) lg
      · obtain ⟨dm, as2, rest, mv, y4, y6, y7, rfl, ⟨hgr2, nda2, hlen2, hdk2⟩, hho2, hdm, ndm, dmas, off2, ins2, nr, nm, r0, m0, lm, hmv⟩ := hM
        have sp := part_split hP hg nr nm r0 m0 hmv
        have mvg : ∀ s, s ∈ mv → s ∈ g := fun s hs => by
          rcases hmv with h | h
          · exact ((h.1 s).mp hs).1
          · exact ((h.2 s).mp hs).1
        have mvl : ∀ s, s ∈ mv → s < hl.length := fun s hs => (List.getElem?_eq_some_iff.mp ((gm s).mp (mvg s hs))).1
        have ndg1 : dm ≠ gr := ne_of hdm hgr2 (by intro z; cases z)
        have ndh1 : dm ≠ ho := ne_of hdm hho2 (by intro z; cases z)
        rw [List.length_set] at hlen2
        -- for state in moved: homes[state] = len(groups)
        refine ⟨dm, .dK (dk mv), hdm, trivial, fun od => ?_⟩
        refine ⟨.ref dm, rfl, dm, od, rfl, .inl ⟨dk mv, upd_same, ?_⟩⟩
        refine for_it walk_keys (fun i σ H1 => (H1 ho = some (.lst (vi (rehome hl (mv.take i) gs.length))) ∧ ∀ b, b ≠ ho → H1 b = upd H' dm (.frz od (.dK (dk mv))) b) ∧ ∃ y6, σ = [some (.ref gr), some (.ref ho), some (.int (home : Int)), some (.ref ht), y4, some (.ref dm), y6, y7]) ⟨⟨?_, fun _ _ => rfl⟩, y6, rfl⟩ (fun i σ H1 _ hW => ?_) (fun i x σ H1 H1' hi hW hY => ?_) (fun σ H1 hW => ?_)
        · rw [upd_ne (Ne.symm ndh1)]
          exact hho2
        · rw [hW.1.2 dm ndh1, upd_same]
        · obtain ⟨⟨w1, w2⟩, y6, rfl⟩ := hW
          obtain ⟨rfl, k, v, hkv, rfl⟩ := hY
          obtain ⟨s2, hs2, rfl, rfl⟩ := dk_get hkv
          have g1 : H1' gr = some (.lst (vr as2)) := by
            rw [w2 gr ngh, upd_ne (Ne.symm ndg1)]
            exact hgr2
          refine ⟨.ref gr, rfl, gr, _, rfl, .inl (.inl (.inl g1)), .ref ho, rfl, .int (s2 : Int), rfl, ho, _, (s2 : Int), s2, rfl, rfl, w1, ixN_nat ?_, ⟨?_, ?_⟩, some (.int (s2 : Int)), rfl⟩
          · rw [List.length_map, rehome_len]
            exact mvl _ (List.mem_of_getElem? hs2)
          · rw [upd_same, List.length_map, hlen2, vi_set, ← rehome_snoc, ← take_snoc hs2]
          · intro b hb
            rw [upd_ne hb]
            exact w2 b hb
        · obtain ⟨⟨w1, w2⟩, y6, rfl⟩ := hW
          have etm : mv.take (dk mv).length = mv := List.take_of_length_le (by rw [List.length_map]; exact Nat.le_refl _)
          rw [etm] at w1
          refine ⟨by rw [w2 dm ndh1, upd_same], ?_⟩
          have g1 : upd H1 dm (.dK (dk mv)) gr = some (.lst (vr as2)) := by
            rw [upd_ne (Ne.symm ndg1), w2 gr ngh, upd_ne (Ne.symm ndg1)]
            exact hgr2
          -- groups.append(moved)
          refine ⟨.ref gr, rfl, .inl ⟨rfl, _, .inl (.inl g1)⟩, .ref dm, rfl, gr, _, _, rfl, rfl, g1, ?_, ?_⟩
          · rw [List.length_map, hlen2]
            have := hP.many
            exact Nat.lt_of_le_of_lt (show gs.length ≤ 1000000 by omega) (by decide)
          · rw [vr_snoc]
            have eb : ∀ b, b ≠ gr → b ≠ dm → b ≠ ho → upd (upd H1 dm (.dK (dk mv))) gr (.lst (vr (as2 ++ [dm]))) b = H' b := fun b h1 h2 h3 => by
              rw [upd_ne h1, upd_ne h2, w2 b h3, upd_ne h2]
            refine q _ (as2 ++ [dm]) (gs.set home rest ++ [mv]) (rehome hl mv gs.length) ⟨upd_same, ?_, ?_, fun i b g' hb hg' => ?_⟩ ?_ sp ?_ ?_
            · refine List.nodup_append.mpr ⟨nda2, by simp, fun x hx y hy e' => ?_⟩
              rw [List.mem_singleton.mp hy] at e'
              exact dmas (e' ▸ hx)
            · rw [List.length_append, List.length_append, List.length_set, hlen2]
              rfl
            · by_cases hi2 : i < as2.length
              · rw [List.getElem?_append_left hi2] at hb
                rw [List.getElem?_append_left (by rw [List.length_set]; omega)] at hg'
                have e3 := hdk2 i b g' hb hg'
                rw [eb b (ne_of e3 hgr2 (by intro z; cases z)) (fun z => dmas (z ▸ List.mem_of_getElem? hb)) (ne_of e3 hho2 (by intro z; cases z))]
                exact e3
              · rw [List.getElem?_append_right (by omega)] at hb
                rw [List.getElem?_append_right (by rw [List.length_set]; omega), List.length_set] at hg'
                have e0 : i - as2.length = 0 := by
                  cases z : i - as2.length with
                  | zero => rfl
                  | succ k =>
                    rw [z] at hb
                    simp at hb
                have e1 : i - gs.length = 0 := by omega
                rw [e0] at hb
                rw [e1] at hg'
                cases hb
                cases hg'
                rw [upd_ne ndg1, upd_same]
            · rw [upd_ne (Ne.symm ngh), upd_ne (Ne.symm ndh1)]
              exact w1
            · intro b o h1 h2 h3 e3
              rw [eb b h1 (ne_of_none e3 ndm) h2]
              exact off2 b o h1 h2 h3 e3
            · intro b hb
              rcases List.mem_append.mp hb with y | y
              · exact ins2 b y
              · exact .inr ((List.mem_singleton.mp y) ▸ ndm)
end
end LH

namespace LH
open PySem PySem.Spec PyProof.Rows L2
/-! ### hits_of: states by their homes -/
abbrev Ent := Nat × Addr × List Nat
abbrev ek (es : List Ent) : List (Key × V) := es.map fun (e : Ent) => (Sum.inl (e.1 : Int), V.ref e.2.1)
theorem valV_ek (h : Nat) : ∀ es : List Ent, valV (ek es) (Sum.inl (h : Int) : Key) = (es.find? fun e => decide (e.1 = h)).map fun e => V.ref e.2.1
  | [] => rfl
  | e :: r => by
    show valV ((Sum.inl (e.1 : Int), V.ref e.2.1) :: ek r) (Sum.inl (h : Int) : Key) = _
    by_cases q : e.1 = h
    · subst q
      rw [valV_pos rfl, List.find?_cons]
      simp
    · rw [valV_neg (fun z => q (by have := Sum.inl.inj z; omega)), valV_ek h r, List.find?_cons]
      simp [q]
theorem putK_ek {es : List Ent} {h : Nat} {l : Addr} (hn : (es.find? fun e => decide (e.1 = h)) = none) : putK (ek es) (Sum.inl (h : Int) : Key) (.ref l) = ek (es ++ [(h, l, [])]) := by
  unfold putK
  rw [valV_any, valV_ek, hn, if_neg (by decide)]
  show _ = List.map _ (es ++ [(h, l, [])])
  rw [List.map_append]
  rfl
structure HitsOk (H : Hp) (es : List Ent) (hl pre : List Nat) : Prop where
  nd : (es.map (·.1)).Nodup
  na : (es.map (·.2.1)).Nodup
  at_ : ∀ e ∈ es, H e.2.1 = some (.lst (vi e.2.2))
  eq : ∀ e ∈ es, e.2.2 = pre.filter fun s => decide (hl[s]? = some e.1)
  ne : ∀ e ∈ es, e.2.2 ≠ []
  all : ∀ s ∈ pre, ∃ e ∈ es, hl[s]? = some e.1
/-- ahead of the append: the entry of h is there, perhaps empty -/
structure HitsMid (H : Hp) (es1 es2 : List Ent) (l : Addr) (h : Nat) (xs hl pre : List Nat) : Prop where
  nd : ((es1 ++ (h, l, xs) :: es2).map (·.1)).Nodup
  na : ((es1 ++ (h, l, xs) :: es2).map (·.2.1)).Nodup
  at_ : ∀ e ∈ es1 ++ (h, l, xs) :: es2, H e.2.1 = some (.lst (vi e.2.2))
  eq : ∀ e ∈ es1 ++ (h, l, xs) :: es2, e.2.2 = pre.filter fun s => decide (hl[s]? = some e.1)
  ne : ∀ e ∈ es1 ++ es2, e.2.2 ≠ []
  all : ∀ s ∈ pre, ∃ e ∈ es1 ++ (h, l, xs) :: es2, hl[s]? = some e.1
theorem HitsMid.step {H H' : Hp} {es1 es2 : List Ent} {l : Addr} {h s : Nat} {xs hl pre : List Nat} (m : HitsMid H es1 es2 l h xs hl pre) (hs : hl[s]? = some h) (h1 : H' l = some (.lst (vi (xs ++ [s])))) (h2 : ∀ b o, b ≠ l → H b = some o → H' b = some o) : HitsOk H' (es1 ++ (h, l, xs ++ [s]) :: es2) hl (pre ++ [s]) := by
  have keys : ∀ {ys : List Nat}, (es1 ++ (h, l, ys) :: es2).map (fun e : Ent => e.1) = (es1 ++ (h, l, xs) :: es2).map (fun e : Ent => e.1) := fun {ys} => by simp
  have adrs : ∀ {ys : List Nat}, (es1 ++ (h, l, ys) :: es2).map (fun e : Ent => e.2.1) = (es1 ++ (h, l, xs) :: es2).map (fun e : Ent => e.2.1) := fun {ys} => by simp
  have inm : ∀ e ∈ es1 ++ es2, e ∈ es1 ++ (h, l, xs) :: es2 := fun e he => by
    rcases List.mem_append.mp he with z | z
    · exact List.mem_append_left _ z
    · exact List.mem_append_right _ (List.mem_cons_of_mem _ z)
  have dif : ∀ e ∈ es1 ++ es2, e.1 ≠ h ∧ e.2.1 ≠ l := fun e he => by
    have n1 := m.nd
    have n2 := m.na
    rw [List.map_append, List.map_cons, List.nodup_append, List.nodup_cons] at n1 n2
    rcases List.mem_append.mp he with z | z
    · exact ⟨fun q => n1.2.2 _ (List.mem_map_of_mem z) _ (List.mem_cons_self ..) q, fun q => n2.2.2 _ (List.mem_map_of_mem z) _ (List.mem_cons_self ..) q⟩
    · exact ⟨fun q => n1.2.1.1 (List.mem_map.mpr ⟨e, z, q⟩), fun q => n2.2.1.1 (List.mem_map.mpr ⟨e, z, q⟩)⟩
  have cases_ : ∀ e ∈ es1 ++ (h, l, xs ++ [s]) :: es2, e = (h, l, xs ++ [s]) ∨ e ∈ es1 ++ es2 := fun e he => by
    rcases List.mem_append.mp he with z | z
    · exact .inr (List.mem_append_left _ z)
    · rcases List.mem_cons.mp z with y | y
      · exact .inl y
      · exact .inr (List.mem_append_right _ y)
  have self : (h, l, xs) ∈ es1 ++ (h, l, xs) :: es2 := List.mem_append_right _ (List.mem_cons_self ..)
  have self' : (h, l, xs ++ [s]) ∈ es1 ++ (h, l, xs ++ [s]) :: es2 := List.mem_append_right _ (List.mem_cons_self ..)
  refine ⟨by rw [keys]; exact m.nd, by rw [adrs]; exact m.na, fun e he => ?_, fun e he => ?_, fun e he => ?_, fun t ht => ?_⟩
  · rcases cases_ e he with rfl | z
    · exact h1
    · exact h2 _ _ (dif e z).2 (m.at_ e (inm e z))
  · rw [List.filter_append]
    rcases cases_ e he with rfl | z
    · have e1 := m.eq _ self
      have : ([s].filter fun s => decide (hl[s]? = some h)) = [s] := by simp [hs]
      show xs ++ [s] = _
      rw [this]
      congr 1
    · have : ([s].filter fun s => decide (hl[s]? = some e.1)) = [] := by
        simp [hs]
        exact fun q => (dif e z).1 q.symm
      rw [this, List.append_nil]
      exact m.eq e (inm e z)
  · rcases cases_ e he with rfl | z
    · show xs ++ [s] ≠ []
      simp
    · exact m.ne e z
  · rcases List.mem_append.mp ht with z | z
    · obtain ⟨e, he, q⟩ := m.all t z
      rcases List.mem_append.mp he with y | y
      · exact ⟨e, List.mem_append_left _ y, q⟩
      · rcases List.mem_cons.mp y with rfl | y
        · exact ⟨_, self', q⟩
        · exact ⟨e, List.mem_append_right _ (List.mem_cons_of_mem _ y), q⟩
    · rw [List.mem_singleton.mp z]
      exact ⟨_, self', hs⟩
def flat (ws : List (List Nat)) (tl : List Nat) : List Nat := (tl.map fun t => ws.getD t []).flatten
theorem flat_snoc (ws : List (List Nat)) (tl : List Nat) (t : Nat) : flat ws (tl ++ [t]) = flat ws tl ++ ws.getD t [] := by
  unfold flat
  rw [List.map_append, List.flatten_append]
  simp
def LolAt (H : Hp) (bk : Addr) (bs : List Addr) (ws : List (List Nat)) : Prop := H bk = some (.lst (vr bs)) ∧ bs.length = ws.length ∧ ∀ (i : Nat) (b : Addr) (w : List Nat), bs[i]? = some b → ws[i]? = some w → H b = some (.lst (vi w))
theorem LolAt.same {H H' : Hp} {bk : Addr} {bs : List Addr} {ws : List (List Nat)} (h : LolAt H bk bs ws) (e : Same H H') : LolAt H' bk bs ws := ⟨e _ _ h.1, h.2.1, fun i b w x y => e _ _ (h.2.2 i b w x y)⟩
theorem LolAt.get {H : Hp} {bk : Addr} {bs : List Addr} {ws : List (List Nat)} (h : LolAt H bk bs ws) {t : Nat} (ht : t < ws.length) : ∃ b, (vr bs)[t]? = some (.ref b) ∧ H b = some (.lst (vi (ws.getD t []))) := by
  have hb : t < bs.length := by
    rw [h.2.1]
    exact ht
  refine ⟨bs[t], ?_, ?_⟩
  · rw [List.getElem?_map, List.getElem?_eq_getElem hb]
    rfl
  · refine h.2.2 t _ _ (List.getElem?_eq_getElem hb) ?_
    rw [List.getD_eq_getElem?_getD, List.getElem?_eq_getElem ht]
    rfl
theorem flat_take {ws : List (List Nat)} {tl : List Nat} {i t : Nat} (h : tl[i]? = some t) : ∃ post, flat ws tl = flat ws (tl.take i) ++ (ws.getD t [] ++ post) := by
  refine ⟨flat ws (tl.drop (i + 1)), ?_⟩
  have hi := (List.getElem?_eq_some_iff.mp h).1
  have e : tl = tl.take i ++ t :: tl.drop (i + 1) := by
    conv => lhs; rw [← List.take_append_drop i tl, List.drop_eq_getElem_cons hi]
    congr 2
    exact (List.getElem?_eq_some_iff.mp h).2
  conv => lhs; rw [e]
  unfold flat
  rw [List.map_append, List.flatten_append, List.map_cons, List.flatten_cons]
section
variable {P : Program} {w : World} {K : PySem.W.Frag} {mg : Str → Option Value} {base : Heap}
def sp_hits_of : Sp := fun vs H Q _ => ∃ (bk tg ho : Addr) (bs : List Addr) (ws : List (List Nat)) (tl hl : List Nat), vs = [.ref bk, .ref tg, .ref ho] ∧ LolAt H bk bs ws ∧ H tg = some (.lst (vi tl)) ∧ H ho = some (.lst (vi hl)) ∧ (∀ t ∈ tl, t < ws.length) ∧ (∀ s ∈ flat ws tl, s < hl.length) ∧ (flat ws tl).length ≤ 1000000 ∧
  ∀ H' hd (es : List Ent), Same H H' → H hd = none → H' hd = some (.dK (ek es)) → HitsOk H' es hl (flat ws tl) → (∀ e ∈ es, H e.2.1 = none) → Q (.ref hd) H'
theorem len_ents {es : List Ent} {hl pre : List Nat} (nd : (es.map (·.1)).Nodup) (eq : ∀ e ∈ es, e.2.2 = pre.filter fun s => decide (hl[s]? = some e.1)) (ne : ∀ e ∈ es, e.2.2 ≠ []) : es.length ≤ pre.length := by
  -- each entry's home is the home of some state
  have key : (es.map fun e : Ent => e.1).length ≤ (pre.map fun s => hl.getD s 0).length := len_le_of_sub nd fun x hx => by
    obtain ⟨e, he, rfl⟩ := List.mem_map.mp hx
    have h1 := ne e he
    rw [eq e he] at h1
    obtain ⟨s, hs⟩ := List.exists_mem_of_ne_nil _ h1
    obtain ⟨hs1, hs2⟩ := List.mem_filter.mp hs
    refine List.mem_map.mpr ⟨s, hs1, ?_⟩
    rw [List.getD_eq_getElem?_getD, of_decide_eq_true hs2]
    rfl
  rw [List.length_map, List.length_map] at key
  exact key
theorem ok_hits_of (T : TX K mg) : FnOk P w K mg base CX0 1 T.a_hits_of T.fd_hits_of ["back", "targets", "homes"] sp_hits_of := by
  refine T.F_hits_of.ok sc_hits_of (fun vs H Q E h => ?_) (fun cdv A outer s H vs Q E hr h => ?_)
  · obtain ⟨bk, tg, ho, bs, ws, tl, hl, rfl, _⟩ := h
    rfl
  · obtain ⟨bk, tg, ho, bs, ws, tl, hl, rfl, hB, htg, hho, htl, hfl, hbd, q⟩ := h
    refine ⟨_, (pss_cons (ps_set (i := 3) sc_hits_of.nd rfl (Or.inl rfl) pe_dnewK)
      (pss_cons (ps_for PassesOwn.never rfl (pi_listK K rfl (pv 1)) (pg_name (i := 4) sc_hits_of.nd rfl (Or.inl rfl))
        (pss_one (ps_for PassesOwn.never rfl (pi_listK K rfl (pe_ix (ix_listK K rfl) (pv 0) (pv 4) (fun _ _ => rfl))) (pg_name (i := 5) sc_hits_of.nd rfl (Or.inl rfl))
            (pss_cons (ps_set (i := 6) sc_hits_of.nd rfl (Or.inl rfl) (pe_ix (ix_listK K rfl) (pv 2) (pv 5) (fun _ _ => rfl)))
              (C8.pss_cut (ps_if (pt_cmp (pc_dnotin (hu_of hr) (pv 6) (pv 3)))
                (pss_one (ps_dput (hu_of hr) (pv 3) (pv 6) (pe_lst pa_nil) rfl))
                pss_nil)
              (pss_one (ps_expr (pe_bmK K rfl PySem.F.plainAttrs_list PySem.F.slot_list_append PySem.F.type_list_append mt_append (pe_dget (hu_of hr) (pv 3) (pv 6) (fun _ _ => rfl)) (pa_cons (pv 5) pa_nil)))))))))
      (pss_one (ps_ret (pv 3))))), ?_⟩
    refine fun hd nhd => ?_
    refine ⟨.ref tg, rfl, tg, rfl, ⟨_, .inl (.inl (same_new nhd _ _ htg))⟩, ?_⟩
    refine for_it (walk_list (K := K) (a := tg) (xs := vi tl)) (fun i σ H' => (∃ es, Same H H' ∧ H' hd = some (.dK (ek es)) ∧ HitsOk H' es hl (flat ws (tl.take i)) ∧ ∀ e ∈ es, H e.2.1 = none) ∧ ∃ y4 y5 y6, σ = [some (.ref bk), some (.ref tg), some (.ref ho), some (.ref hd), y4, y5, y6]) ⟨⟨[], same_new nhd, upd_same, ⟨List.nodup_nil, List.nodup_nil, (fun _ h => nomatch h), (fun _ h => nomatch h), (fun _ h => nomatch h), (fun _ h => nomatch h)⟩, fun _ h => nomatch h⟩, none, none, none, rfl⟩ (fun i σ H' _ hW => ?_) (fun i x σ H1 H1' hi hW hY => ?_) (fun σ H1 hW => ?_)
    · obtain ⟨⟨es, sm, _⟩, _⟩ := hW
      exact .inl (.inl (sm _ _ htg))
    · obtain ⟨⟨es, sm, ed, ok, fr⟩, y4, y5, y6, rfl⟩ := hW
      obtain ⟨rfl, hx⟩ := hY
      obtain ⟨t, ht, rfl⟩ := int_at hx
      have htw := htl t (List.mem_of_getElem? ht)
      obtain ⟨post, ef⟩ := flat_take (ws := ws) ht
      obtain ⟨b, hb1, hb2⟩ := hB.get htw
      -- for state in back[target]
      refine ⟨.ref bk, rfl, .int (t : Int), rfl, bk, _, (t : Int), .ref b, rfl, rfl, .inl (.inl (sm _ _ hB.1)), atI_nat hb1, b, rfl, ⟨_, .inl (.inl (sm _ _ hb2))⟩, ?_⟩
      refine for_it (walk_list (K := K) (a := b) (xs := vi (ws.getD t []))) (fun j σ H' => (∃ es, Same H H' ∧ H' hd = some (.dK (ek es)) ∧ HitsOk H' es hl (flat ws (tl.take i) ++ (ws.getD t []).take j) ∧ ∀ e ∈ es, H e.2.1 = none) ∧ ∃ y5 y6, σ = [some (.ref bk), some (.ref tg), some (.ref ho), some (.ref hd), some (.int (t : Int)), y5, y6]) ⟨⟨es, sm, ed, by rw [List.take_zero, List.append_nil]; exact ok, fr⟩, y5, y6, rfl⟩ (fun j σ H' _ hW => ?_) (fun j x σ H2 H2' hj hW hY => ?_) (fun σ H2 hW => ?_)
      · obtain ⟨⟨es, sm, _⟩, _⟩ := hW
        exact .inl (.inl (sm _ _ hb2))
      · obtain ⟨⟨es, sm, ed, ok, fr⟩, y5, y6, rfl⟩ := hW
        obtain ⟨rfl, hx⟩ := hY
        obtain ⟨u, hu, rfl⟩ := int_at hx
        have huf : u ∈ flat ws tl := by
          rw [ef]
          exact List.mem_append_right _ (List.mem_append_left _ (List.mem_of_getElem? hu))
        have hul := hfl u huf
        have hh : hl[u]? = some hl[u] := List.getElem?_eq_getElem hul
        generalize hl[u] = h at hh
        have hv : (vi hl)[u]? = some (.int (h : Int)) := by
          rw [List.getElem?_map, hh]
          rfl
        have ll : es.length ≤ 1000000 := by
          have := len_ents ok.nd ok.eq ok.ne
          have hle : (flat ws (List.take i tl) ++ List.take j (ws.getD t [])).length ≤ (flat ws tl).length := by
            rw [ef, List.length_append, List.length_append, List.length_append, List.length_take]
            omega
          omega
        -- home = homes[state]
        refine ⟨.ref ho, rfl, .int (u : Int), rfl, ho, _, (u : Int), .int (h : Int), rfl, rfl, .inl (.inl (sm _ _ hho)), atI_nat hv, ?_⟩
        refine ⟨fun σ' H' => ∃ es1 es2 l xs, σ' = [some (.ref bk), some (.ref tg), some (.ref ho), some (.ref hd), some (.int (t : Int)), some (.int (u : Int)), some (.int (h : Int))] ∧ Same H H' ∧ H' hd = some (.dK (ek (es1 ++ (h, l, xs) :: es2))) ∧ HitsMid H' es1 es2 l h xs hl (flat ws (tl.take i) ++ (ws.getD t []).take j) ∧ (∀ e ∈ es1 ++ (h, l, xs) :: es2, H e.2.1 = none) ∧ xs.length ≤ 1000000, ?_, fun σ' H' hM => ?_⟩
        · refine ⟨.int (h : Int), rfl, .ref hd, rfl, hd, _, rfl, DGet.k (k := Sum.inl (h : Int)) ed, _, rfl, ?_⟩
          rw [valV_ek]
          cases ef2 : es.find? fun e => decide (e.1 = h) with
          | none =>
            refine iteT ?_
            refine ⟨by show 0 ≤ sizeLine; decide, fun l nl => ?_⟩
            have dl : hd ≠ l := ne_of_none ed nl
            have fl : H l = none := sm.free nl
            have hn := List.find?_eq_none.mp ef2
            refine ⟨.ref hd, rfl, .int (h : Int), rfl, hd, _, rfl, DPut.k (k := Sum.inl (h : Int)) (by rw [upd_ne dl]; exact ed) ?_, es, [], l, [], rfl, ?_, ?_, ⟨?_, ?_, fun e he => ?_, fun e he => ?_, fun e he => ?_, fun s0 hs0 => ?_⟩, fun e he => ?_, by show 0 ≤ 1000000; decide⟩
            · rw [List.length_map]
              exact Nat.lt_of_le_of_lt ll (by decide)
            · intro b o e
              rw [upd_ne (ne_of_none e nhd), upd_ne (ne_of_none e fl)]
              exact sm b o e
            · rw [upd_same, putK_ek ef2]
            · rw [List.map_append, List.nodup_append]
              refine ⟨ok.nd, by simp, fun x hx y hy e => ?_⟩
              obtain ⟨e1, he1, rfl⟩ := List.mem_map.mp hx
              have : y = h := by simpa using hy
              exact hn e1 he1 (decide_eq_true (e.trans this))
            · rw [List.map_append, List.nodup_append]
              refine ⟨ok.na, by simp, fun x hx y hy e => ?_⟩
              obtain ⟨e1, he1, rfl⟩ := List.mem_map.mp hx
              have : y = l := by simpa using hy
              exact ne_of_none (ok.at_ e1 he1) nl (e.trans this)
            · rcases List.mem_append.mp he with z | z
              · have e3 := ok.at_ e z
                rw [upd_ne (ne_of e3 ed (by intro z; cases z)), upd_ne (ne_of_none e3 nl)]
                exact e3
              · rw [List.mem_singleton.mp z]
                show upd _ hd _ l = _
                rw [upd_ne (Ne.symm dl), upd_same]
                rfl
            · rcases List.mem_append.mp he with z | z
              · exact ok.eq e z
              · rw [List.mem_singleton.mp z]
                refine (List.filter_eq_nil_iff.mpr fun s0 hs0 => ?_).symm
                intro hd0
                obtain ⟨e1, he1, q1⟩ := ok.all s0 hs0
                have : hl[s0]? = some h := of_decide_eq_true hd0
                rw [this] at q1
                exact hn e1 he1 (decide_eq_true (Option.some.inj q1).symm)
            · rw [List.append_nil] at he
              exact ok.ne e he
            · obtain ⟨e1, he1, q1⟩ := ok.all s0 hs0
              exact ⟨e1, List.mem_append_left _ he1, q1⟩
            · rcases List.mem_append.mp he with z | z
              · exact fr e z
              · rw [List.mem_singleton.mp z]
                exact fl
          | some e0 =>
            refine iteF ?_
            have he0 := List.mem_of_find?_eq_some ef2
            have hk1 := List.find?_some ef2
            have hk0 : e0.1 = h := of_decide_eq_true hk1
            obtain ⟨h0, l, xs⟩ := e0
            have hk0 : h0 = h := hk0
            subst hk0
            obtain ⟨es1, es2, rfl⟩ := List.append_of_mem he0
            refine ⟨es1, es2, l, xs, rfl, sm, ed, ⟨ok.nd, ok.na, ok.at_, ok.eq, fun e he => ok.ne e ?_, ok.all⟩, fr, ?_⟩
            · rcases List.mem_append.mp he with z | z
              · exact List.mem_append_left _ z
              · exact List.mem_append_right _ (List.mem_cons_of_mem _ z)
            · have := ok.eq _ he0
              have hx : xs = _ := this
              rw [hx]
              refine Nat.le_trans (List.length_filter_le _ _) ?_
              have hle : (flat ws (List.take i tl) ++ List.take j (ws.getD t [])).length ≤ (flat ws tl).length := by
                rw [ef, List.length_append, List.length_append, List.length_append, List.length_take]
                omega
              omega
        · obtain ⟨es1, es2, l, xs, rfl, sm, ed, mid, fr, lx⟩ := hM
          have self : (h, l, xs) ∈ es1 ++ (h, l, xs) :: es2 := List.mem_append_right _ (List.mem_cons_self ..)
          have hlx := mid.at_ _ self
          have fl := fr _ self
          have dl : hd ≠ l := ne_of ed hlx (by intro z; cases z)
          have vh : valV (ek (es1 ++ (h, l, xs) :: es2)) (Sum.inl (h : Int) : Key) = some (.ref l) := by
            rw [valV_ek, List.find?_append]
            have : (es1.find? fun e => decide (e.1 = h)) = none := List.find?_eq_none.mpr fun e he hd0 => by
              have n1 := mid.nd
              rw [List.map_append, List.map_cons, List.nodup_append] at n1
              exact n1.2.2 _ (List.mem_map_of_mem he) _ (List.mem_cons_self ..) (of_decide_eq_true hd0)
            rw [this, List.find?_cons]
            simp
          -- hits[home].append(state)
          refine ⟨.ref hd, rfl, .int (h : Int), rfl, hd, .ref l, rfl, ?_, .inl ⟨rfl, _, .inl (.inl hlx)⟩, .int (u : Int), rfl, l, _, _, rfl, rfl, hlx, ?_, ⟨es1 ++ (h, l, xs ++ [u]) :: es2, ?_, ?_, ?_, ?_⟩, _, _, rfl⟩
          · have := DGet.k (k := Sum.inl (h : Int)) ed
            rw [vh] at this
            exact this
          · rw [List.length_map]
            exact Nat.lt_of_le_of_lt lx (by decide)
          · intro b o e
            rw [upd_ne (ne_of_none e fl)]
            exact sm b o e
          · rw [upd_ne dl, ed]
            congr 2
            show List.map _ _ = List.map _ _
            simp
          · rw [take_snoc hu, ← List.append_assoc]
            refine mid.step hh ?_ fun b o n e => ?_
            · rw [upd_same, vi_snoc]
            · rw [upd_ne n]
              exact e
          · intro e he
            rcases List.mem_append.mp he with z | z
            · exact fr e (List.mem_append_left _ z)
            · rcases List.mem_cons.mp z with rfl | z
              · exact fl
              · exact fr e (List.mem_append_right _ (List.mem_cons_of_mem _ z))
      · obtain ⟨⟨es, sm, ed, ok, fr⟩, y5, y6, rfl⟩ := hW
        have et : (ws.getD t []).take (vi (ws.getD t [])).length = ws.getD t [] := List.take_of_length_le (by rw [List.length_map]; exact Nat.le_refl _)
        rw [et] at ok
        rw [take_snoc ht, flat_snoc]
        exact ⟨⟨es, sm, ed, ok, fr⟩, _, _, _, rfl⟩
    · obtain ⟨⟨es, sm, ed, ok, fr⟩, y4, y5, y6, rfl⟩ := hW
      have et : tl.take (vi tl).length = tl := List.take_of_length_le (by rw [List.length_map]; exact Nat.le_refl _)
      rw [et] at ok
      exact ⟨.ref hd, rfl, q H1 hd es sm nhd ed ok fr⟩
end
end LH

namespace LH
open PySem PySem.Spec PyProof.Rows L2
/-! ### ways_back: for each column, for each state, where it is come from -/
def dl (rows : List (List Nat)) (s c : Nat) : Nat := (rows.getD s []).getD c 0
structure BK (H : Hp) (bk : Addr) (cs : List Addr) (bss : List (List Addr)) (n : Nat) (F : Nat → Nat → List Nat) : Prop where
  top : H bk = some (.lst (vr cs))
  len : cs.length = bss.length
  col : ∀ (c : Nat) (a : Addr) (bs : List Addr), cs[c]? = some a → bss[c]? = some bs → H a = some (.lst (vr bs)) ∧ bs.length = n
  cell : ∀ (c t : Nat) (bs : List Addr) (b : Addr), bss[c]? = some bs → bs[t]? = some b → H b = some (.lst (vi (F c t)))
  nd : bss.flatten.Nodup
theorem BK.same {H H' : Hp} {bk : Addr} {cs : List Addr} {bss : List (List Addr)} {n : Nat} {F : Nat → Nat → List Nat} (h : BK H bk cs bss n F) (e : Same H H') : BK H' bk cs bss n F := ⟨e _ _ h.top, h.len, fun c a bs x y => ⟨e _ _ (h.col c a bs x y).1, (h.col c a bs x y).2⟩, fun c t bs b x y => e _ _ (h.cell c t bs b x y), h.nd⟩
theorem flat_ix {α : Type} : ∀ {bss : List (List α)} {c c' t t' : Nat} {bs bs' : List α} {b : α}, bss.flatten.Nodup → bss[c]? = some bs → bss[c']? = some bs' → bs[t]? = some b → bs'[t']? = some b → c = c' ∧ t = t'
  | [], _, _, _, _, _, _, _, _, h, _, _, _ => by simp at h
  | x :: r, 0, 0, t, t', bs, bs', b, nd, h1, h2, h3, h4 => by
    cases h1
    cases h2
    rw [List.flatten_cons, List.nodup_append] at nd
    exact ⟨rfl, nd_ix nd.1 h3 h4⟩
  | x :: r, 0, c' + 1, t, t', bs, bs', b, nd, h1, h2, h3, h4 => by
    cases h1
    rw [List.flatten_cons, List.nodup_append] at nd
    exact absurd rfl (nd.2.2 b (List.mem_of_getElem? h3) b (List.mem_flatten.mpr ⟨bs', List.mem_of_getElem? (by simpa using h2), List.mem_of_getElem? h4⟩))
  | x :: r, c + 1, 0, t, t', bs, bs', b, nd, h1, h2, h3, h4 => by
    cases h2
    rw [List.flatten_cons, List.nodup_append] at nd
    exact absurd rfl (nd.2.2 b (List.mem_of_getElem? h4) b (List.mem_flatten.mpr ⟨bs, List.mem_of_getElem? (by simpa using h1), List.mem_of_getElem? h3⟩))
  | x :: r, c + 1, c' + 1, t, t', bs, bs', b, nd, h1, h2, h3, h4 => by
    rw [List.flatten_cons, List.nodup_append] at nd
    have := flat_ix (bss := r) (c := c) (c' := c') nd.2.1 (by simpa using h1) (by simpa using h2) h3 h4
    exact ⟨by omega, this.2⟩
/-- one list grows -/
theorem BK.put {H : Hp} {bk : Addr} {cs : List Addr} {bss : List (List Addr)} {n c t x : Nat} {F : Nat → Nat → List Nat} {bs : List Addr} {b : Addr} (h : BK H bk cs bss n F) (hc : bss[c]? = some bs) (ht : bs[t]? = some b) (n1 : 1 ≤ n) (l1 : 1 ≤ cs.length) : BK (upd H b (.lst (vi (F c t ++ [x])))) bk cs bss n (fun c' t' => if c' = c ∧ t' = t then F c t ++ [x] else F c' t') := by
  have hb := h.cell c t bs b hc ht
  have nref : ∀ {as : List Addr} {ns : List Nat}, 1 ≤ as.length → HO.lst (vr as) ≠ HO.lst (vi ns) := fun {as ns} l e => by
    cases as with
    | nil => simp at l
    | cons a r =>
      cases ns with
      | nil => cases e
      | cons m q => cases e
  refine ⟨?_, h.len, fun c' a bs' x y => ?_, fun c' t' bs' b' x y => ?_, h.nd⟩
  · rw [upd_ne (ne_of h.top hb (nref l1))]
    exact h.top
  · obtain ⟨z1, z2⟩ := h.col c' a bs' x y
    refine ⟨?_, z2⟩
    rw [upd_ne (ne_of z1 hb (nref (by omega)))]
    exact z1
  · by_cases e : c' = c ∧ t' = t
    · obtain ⟨rfl, rfl⟩ := e
      rw [hc] at x
      cases x
      rw [ht] at y
      cases y
      rw [upd_same]
      show _ = some (HO.lst (vi (if c' = c' ∧ t' = t' then F c' t' ++ [_] else F c' t')))
      rw [if_pos ⟨rfl, rfl⟩]
    · show _ = some (HO.lst (vi (if c' = c ∧ t' = t then F c t ++ [_] else F c' t')))
      rw [if_neg e]
      have nb : b' ≠ b := fun z => by
        subst z
        exact e (flat_ix h.nd x hc y ht)
      rw [upd_ne nb]
      exact h.cell c' t' bs' b' x y
theorem BK.congr {H : Hp} {bk : Addr} {cs : List Addr} {bss : List (List Addr)} {n : Nat} {F G : Nat → Nat → List Nat} (h : BK H bk cs bss n F) (e : ∀ c t, c < cs.length → F c t = G c t) : BK H bk cs bss n G := ⟨h.top, h.len, h.col, fun c t bs b x y => by
  rw [← e c t (by rw [h.len]; exact (List.getElem?_eq_some_iff.mp x).1)]
  exact h.cell c t bs b x y, h.nd⟩
def bkF (rows : List (List Nat)) (s c t : Nat) : List Nat := (List.range s).filter fun s' => decide (dl rows s' c = t)
theorem bkF_succ (rows : List (List Nat)) (s c t : Nat) : bkF rows (s + 1) c t = if dl rows s c = t then bkF rows s c t ++ [s] else bkF rows s c t := by
  unfold bkF
  rw [List.range_succ, List.filter_append]
  by_cases e : dl rows s c = t
  · rw [if_pos e]
    simp [e]
  · rw [if_neg e]
    simp [e]
structure TabOk (n L : Nat) (rows : List (List Nat)) : Prop where
  num : rows.length = n
  one : 1 ≤ n
  big : n ≤ 1000000
  l1 : 1 ≤ L
  l5 : L ≤ 5
  row : ∀ r ∈ rows, r.length = L ∧ ∀ t ∈ r, t < n
theorem TabOk.at_ {n L : Nat} {rows : List (List Nat)} (k : TabOk n L rows) {s : Nat} (h : s < n) : ∃ r, rows[s]? = some r ∧ rows.getD s [] = r ∧ r.length = L ∧ ∀ t ∈ r, t < n := by
  have hs : s < rows.length := by
    rw [k.num]
    exact h
  refine ⟨rows[s], List.getElem?_eq_getElem hs, ?_, k.row _ (List.getElem_mem hs)⟩
  rw [List.getD_eq_getElem?_getD, List.getElem?_eq_getElem hs]
  rfl
theorem TabOk.dl_lt {n L : Nat} {rows : List (List Nat)} (k : TabOk n L rows) {s c : Nat} (h : s < n) (hc : c < L) : dl rows s c < n := by
  obtain ⟨r, _, e, l, t⟩ := k.at_ h
  unfold dl
  rw [e, List.getD_eq_getElem?_getD, List.getElem?_eq_getElem (by omega)]
  exact t _ (List.getElem_mem _)
section
variable {P : Program} {w : World} {K : PySem.W.Frag} {mg : Str → Option Value} {base : Heap}
def sp_ways_back : Sp := fun vs H Q _ => ∃ (tb : Addr) (ras : List Addr) (rows : List (List Nat)) (n L : Nat), vs = [.ref tb] ∧ LolAt H tb ras rows ∧ TabOk n L rows ∧
  ∀ H' bk cs bss, Same H H' → H bk = none → (∀ a ∈ cs, H a = none) → (∀ b ∈ bss.flatten, H b = none) → cs.length = L → BK H' bk cs bss n (bkF rows n) → Q (.ref bk) H'
theorem ok_ways_back (T : TX K mg) : FnOk P w K mg base CX0 1 T.a_ways_back T.fd_ways_back ["table"] sp_ways_back := by
  refine T.F_ways_back.ok sc_ways_back (fun vs H Q E h => ?_) (fun cdv A outer s H vs Q E hr h => ?_)
  · obtain ⟨tb, ras, rows, n, L, rfl, _⟩ := h
    rfl
  · obtain ⟨tb, ras, rows, n, L, rfl, hT, k, q⟩ := h
    refine ⟨_, (pss_cons (ps_setLc (i := 1) (own := [("target", 5)]) (g := gName 5) (tt := tYes) (by rfl) sc_ways_back.nd rfl rfl (sw_true rfl rfl rfl (by decide +kernel)) (pi_listK K rfl (pe_ix (ix_listK K rfl) (pv 0) pe_int (fun _ _ => rfl))) (blkOk_by (own := [("target", 5)]) (N := N_ways_back) (by kernel_rfl)) (fun _ _ _ _ _ => (pg_name (i := 5) sc_ways_back.nd rfl (Or.inl rfl))) (fun _ _ _ _ _ => pts_nil) (fun _ _ _ _ _ => (pe_lc (own := [("row", 3)]) (g := gName 3) (tt := tYes) (by rfl) sc_ways_back.nd (pi_listK K rfl (pv 0)) (blkOk_by (own := [("row", 3)]) (N := N_ways_back) (by kernel_rfl)) (fun _ _ _ _ _ => (pg_name (i := 3) sc_ways_back.nd rfl (Or.inl rfl))) (fun _ _ _ _ _ => pts_nil) (fun _ _ _ _ _ => (pe_lst pa_nil)))))
      (pss_cons (ps_for PassesOwn.never rfl (pi_enumK K rfl (by rfl) T.m_enumerate (pa_cons (pv 0) pa_nil)) (pg_tupK (n := 2) K rfl (by rfl) (pgs_cons (pg_name (i := 2) sc_ways_back.nd rfl (Or.inl rfl)) (pgs_cons (pg_name (i := 3) sc_ways_back.nd rfl (Or.inl rfl)) pgs_nil)))
        (pss_one (ps_for PassesOwn.never rfl (pi_enumK K rfl (by rfl) T.m_enumerate (pa_cons (pv 3) pa_nil)) (pg_tupK (n := 2) K rfl (by rfl) (pgs_cons (pg_name (i := 4) sc_ways_back.nd rfl (Or.inl rfl)) (pgs_cons (pg_name (i := 5) sc_ways_back.nd rfl (Or.inl rfl)) pgs_nil)))
            (pss_one (ps_expr (pe_bmK K rfl PySem.F.plainAttrs_list PySem.F.slot_list_append PySem.F.type_list_append mt_append (pe_ix (ix_listK K rfl) (pe_ix (ix_listK K rfl) (pv 1) (pv 4) (fun _ _ => rfl)) (pv 5) (fun _ _ => rfl)) (pa_cons (pv 2) pa_nil)))))))
      (pss_one (ps_ret (pv 1))))), ?_⟩
    obtain ⟨r0, er0, eg0, lr0, _⟩ := k.at_ (s := 0) k.one
    obtain ⟨b0, hb0, hr0⟩ := hT.get (t := 0) (by rw [k.num]; exact k.one)
    rw [eg0] at hr0
    have lT : ras.length = n := by
      rw [hT.2.1, k.num]
    -- backs
    refine ⟨.ref tb, rfl, tb, _, 0, .ref b0, rfl, rfl, .inl (.inl hT.1), atI_nat (j := 0) hb0, b0, rfl, ⟨_, .inl (.inl hr0)⟩, fun D nD => ?_⟩
    refine lc_it (walk_list (K := K) (a := b0) (xs := vi r0)) (fun i H' => ∃ cs bss, Same H H' ∧ cs.length = i ∧ (∀ a ∈ cs, H a = none) ∧ (∀ b ∈ bss.flatten, H b = none) ∧ BK H' D cs bss n (fun _ _ => [])) ⟨[], [], same_new nD, rfl, (fun _ h => nomatch h), (fun _ h => nomatch h), ⟨upd_same, rfl, fun c a bs x => by simp at x, fun c t bs b x => by simp at x, List.nodup_nil⟩⟩ (fun i H' _ hW => ?_) (fun i x H1 H1' hi hW hY => ?_) (fun H1 hW => ?_)
    · obtain ⟨cs, bss, sm, _⟩ := hW
      exact .inl (.inl (sm _ _ hr0))
    · obtain ⟨cs, bss, sm, lc, fc, fb, bk⟩ := hW
      obtain ⟨rfl, hx⟩ := hY
      obtain ⟨u, hu, rfl⟩ := int_at hx
      refine ⟨rfl, lcyes ?_⟩
      -- [[] for row in table]
      refine ⟨.ref tb, rfl, tb, rfl, ⟨_, .inl (.inl (sm _ _ hT.1))⟩, fun D2 n2 => ?_⟩
      have dd : D ≠ D2 := ne_of_none bk.top n2
      refine lc_it (walk_list (K := K) (a := tb) (xs := vr ras)) (fun j H' => ∃ bs, Same H1' H' ∧ H' D2 = some (.lst (vr bs)) ∧ bs.length = j ∧ bs.Nodup ∧ ∀ b ∈ bs, H1' b = none ∧ b ≠ D2 ∧ H' b = some (.lst [])) ⟨[], same_new n2, upd_same, rfl, List.nodup_nil, fun _ h => nomatch h⟩ (fun j H' _ hW => ?_) (fun j x H2 H2' hj hW hY => ?_) (fun H2 hW => ?_)
      · obtain ⟨bs, sm2, _⟩ := hW
        exact .inl (.inl (sm2 _ _ (sm _ _ hT.1)))
      · obtain ⟨bs, sm2, e2, l2, nd2, f2⟩ := hW
        obtain ⟨rfl, hx2⟩ := hY
        refine ⟨rfl, lcyes ?_⟩
        refine ⟨by show 0 ≤ sizeLine; decide, fun p np => ?_⟩
        have pd : D2 ≠ p := ne_of_none e2 np
        have fp : H1' p = none := sm2.free np
        have nin : p ∉ bs := fun z => by
          rw [(f2 p z).2.2] at np
          cases np
        refine ⟨vr bs, by rw [upd_ne pd]; exact e2, ?_, bs ++ [p], ?_, ?_, ?_, ?_, fun b hb => ?_⟩
        · rw [List.length_map, l2]
          rw [List.length_map] at hj
          have := k.big
          exact Nat.lt_of_le_of_lt (show j ≤ 1000000 by omega) (by decide)
        · intro b o e
          rw [upd_ne (ne_of_none e n2), upd_ne (ne_of_none e fp)]
          exact sm2 b o e
        · rw [upd_same, vr_snoc]
        · rw [List.length_append, l2]
          rfl
        · refine List.nodup_append.mpr ⟨nd2, by simp, fun x hx y hy e => ?_⟩
          rw [List.mem_singleton.mp hy] at e
          exact nin (e ▸ hx)
        · rcases List.mem_append.mp hb with z | z
          · obtain ⟨z1, z2, z3⟩ := f2 b z
            refine ⟨z1, z2, ?_⟩
            rw [upd_ne z2, upd_ne (ne_of_none z3 np)]
            exact z3
          · rw [List.mem_singleton.mp z]
            refine ⟨fp, Ne.symm pd, ?_⟩
            rw [upd_ne (Ne.symm pd), upd_same]
      · obtain ⟨bs, sm2, e2, l2, nd2, f2⟩ := hW
        have bk2 := bk.same sm2
        have hD : upd H2 D (.lst (vr (cs ++ [D2]))) D = some (.lst (vr (cs ++ [D2]))) := upd_same
        have fD2 : H D2 = none := sm.free n2
        refine ⟨vr cs, bk2.top, ?_, cs ++ [D2], bss ++ [bs], ?_, ?_, ?_, ?_, ?_⟩
        · rw [List.length_map, lc]
          rw [List.length_map] at hi
          have := k.l5
          exact Nat.lt_of_le_of_lt (show i ≤ 1000000 by omega) (by decide)
        · intro b o e
          rw [vr_snoc, upd_ne (ne_of_none e nD)]
          exact sm2 _ _ (sm b o e)
        · rw [List.length_append, lc]
          rfl
        · exact mem_snoc fc fD2
        · intro b hb
          rw [List.flatten_append] at hb
          rcases List.mem_append.mp hb with z | z
          · exact fb b z
          · have z : b ∈ bs := by simpa using z
            exact sm.free (f2 b z).1
        · rw [vr_snoc]
          refine ⟨upd_same, by rw [List.length_append, List.length_append, bk.len]; rfl, fun c a bs' x y => ?_, fun c t bs' b x y => ?_, ?_⟩
          · by_cases hc : c < cs.length
            · rw [List.getElem?_append_left hc] at x
              rw [List.getElem?_append_left (by rw [← bk.len]; exact hc)] at y
              obtain ⟨z1, z2⟩ := bk2.col c a bs' x y
              refine ⟨?_, z2⟩
              have : a ≠ D := fun z => by
                have := fc a (List.mem_of_getElem? x)
                have z3 := bk.top
                have z4 := (bk.col c a bs' x y).1
                subst z
                rw [z3] at z4
                have z5 : vr cs = vr bs' := HO.lst.inj (Option.some.inj z4)
                have := congrArg List.length z5
                rw [List.length_map, List.length_map, z2] at this
                -- the list of columns would be one of its own
                have hmem : V.ref a ∈ vr cs := List.mem_map_of_mem (List.mem_of_getElem? x)
                rw [z5] at hmem
                obtain ⟨b', hb', e'⟩ := List.mem_map.mp hmem
                cases e'
                have : a ∈ bss.flatten := List.mem_flatten.mpr ⟨bs', List.mem_of_getElem? y, hb'⟩
                obtain ⟨t', ht'⟩ := List.mem_iff_getElem?.mp hb'
                have z6 := bk.cell c t' bs' a y ht'
                rw [z3] at z6
                have z7 : vr cs = [] := HO.lst.inj (Option.some.inj z6)
                have z8 : cs = [] := List.map_eq_nil_iff.mp z7
                rw [z8] at x
                simp at x
              rw [upd_ne this]
              exact z1
            · rw [List.getElem?_append_right (by omega)] at x
              rw [List.getElem?_append_right (by rw [← bk.len]; omega), ← bk.len] at y
              have e0 : c - cs.length = 0 := by
                cases z : c - cs.length with
                | zero => rfl
                | succ m =>
                  rw [z] at x
                  simp at x
              rw [e0] at x y
              cases x
              cases y
              rw [upd_ne (Ne.symm dd)]
              rw [List.length_map] at l2
              exact ⟨e2, by omega⟩
          · by_cases hc : c < bss.length
            · rw [List.getElem?_append_left hc] at x
              have z1 := bk2.cell c t bs' b x y
              have z0 := bk.cell c t bs' b x y
              have : b ≠ D := fun z => by
                have := fb b (List.mem_flatten.mpr ⟨bs', List.mem_of_getElem? x, List.mem_of_getElem? y⟩)
                subst z
                have z3 := bk.top
                rw [z3] at z0
                have z7 : vr cs = [] := HO.lst.inj (Option.some.inj z0)
                have z8 : cs = [] := List.map_eq_nil_iff.mp z7
                have := bk.len
                rw [z8] at this
                simp at this
                omega
              rw [upd_ne this]
              exact z1
            · rw [List.getElem?_append_right (by omega)] at x
              have e0 : c - bss.length = 0 := by
                cases z : c - bss.length with
                | zero => rfl
                | succ m =>
                  rw [z] at x
                  simp at x
              rw [e0] at x
              cases x
              obtain ⟨z1, z2, z3⟩ := f2 b (List.mem_of_getElem? y)
              rw [upd_ne (Ne.symm (ne_of_none bk.top z1))]
              exact z3
          · rw [List.flatten_append, List.nodup_append]
            refine ⟨bk.nd, by simpa using nd2, fun x hx y hy e => ?_⟩
            have hy : y ∈ bs := by simpa using hy
            subst e
            obtain ⟨bs', hbs', hxb⟩ := List.mem_flatten.mp hx
            obtain ⟨c, hc⟩ := List.mem_iff_getElem?.mp hbs'
            obtain ⟨t, ht⟩ := List.mem_iff_getElem?.mp hxb
            have z0 := bk.cell c t bs' x hc ht
            rw [(f2 x hy).1] at z0
            cases z0
    · obtain ⟨cs, bss, sm, lc, fc, fb, bk⟩ := hW
      rw [List.length_map, lr0] at lc
      have bk := bk.congr (G := bkF rows 0) fun c t _ => rfl
      -- for state, row in enumerate(table)
      refine ⟨.ref tb, rfl, tb, _, rfl, .inl (.inl (sm _ _ hT.1)), ?_⟩
      refine for_it (walk_enum (K := K) (a := tb) (xs := vr ras)) (fun i σ H' => (Same H H' ∧ BK H' D cs bss n (bkF rows i)) ∧ ∃ y2 y3 y4 y5, σ = [some (.ref tb), some (.ref D), y2, y3, y4, y5]) ⟨⟨sm, bk⟩, none, none, none, none, rfl⟩ (fun i σ H' _ hW => .inl (.inl (hW.1.1 _ _ hT.1))) (fun i x σ H2 H2' hi hW hY => ?_) (fun σ H2 hW => ?_)
      · obtain ⟨⟨sm2, bk2⟩, y2, y3, y4, y5, rfl⟩ := hW
        obtain ⟨T1, v1, v2, rfl, nT1, rfl, e1, e2⟩ := hY
        cases e1
        rw [List.length_map] at hi
        have hin : i < n := by omega
        obtain ⟨r, er, eg, lr, lt⟩ := k.at_ hin
        obtain ⟨b, hb, hrow⟩ := hT.get (t := i) (by rw [k.num]; exact hin)
        rw [eg] at hrow
        have e2 := hb.symm.trans e2
        cases e2
        refine ⟨T1, [.int (i : Int), .ref b], rfl, .inl (.inl upd_same), rfl, .int (i : Int), [.ref b], rfl, .ref b, [], rfl, rfl, ?_⟩
        have sm3 : Same H (upd H2 T1 (.tup [.int (i : Int), .ref b])) := sm2.trans (same_new nT1)
        have bk3 := bk2.same (same_new (o := .tup [.int (i : Int), .ref b]) nT1)
        generalize upd H2 T1 (.tup [.int (i : Int), .ref b]) = H3 at sm3 bk3
        -- for column, target in enumerate(row)
        refine ⟨.ref b, rfl, b, _, rfl, .inl (.inl (sm3 _ _ hrow)), ?_⟩
        refine for_it (walk_enum (K := K) (a := b) (xs := vi r)) (fun j σ H' => (Same H H' ∧ BK H' D cs bss n (fun c t => if c < j then bkF rows (i + 1) c t else bkF rows i c t)) ∧ ∃ y4 y5, σ = [some (.ref tb), some (.ref D), some (.int (i : Int)), some (.ref b), y4, y5]) ⟨⟨sm3, bk3.congr fun c t _ => by rw [if_neg (Nat.not_lt_zero c)]⟩, y4, y5, rfl⟩ (fun j σ H' _ hW => .inl (.inl (hW.1.1 _ _ hrow))) (fun j x σ H4 H4' hj hW hY => ?_) (fun σ H4 hW => ?_)
        · obtain ⟨⟨sm4, bk4⟩, y4, y5, rfl⟩ := hW
          obtain ⟨T2, v1, v2, rfl, nT2, rfl, e1, e2⟩ := hY
          cases e1
          obtain ⟨u, hu, rfl⟩ := int_at e2
          rw [List.length_map] at hj
          have hun : u < n := lt u (List.mem_of_getElem? hu)
          have edl : dl rows i j = u := by
            unfold dl
            rw [eg, List.getD_eq_getElem?_getD, hu]
            rfl
          refine ⟨T2, [.int (j : Int), .int (u : Int)], rfl, .inl (.inl upd_same), rfl, .int (j : Int), [.int (u : Int)], rfl, .int (u : Int), [], rfl, rfl, ?_⟩
          have sm5 : Same H (upd H4 T2 (.tup [.int (j : Int), .int (u : Int)])) := sm4.trans (same_new nT2)
          have bk5 := bk4.same (same_new (o := .tup [.int (j : Int), .int (u : Int)]) nT2)
          generalize upd H4 T2 (.tup [.int (j : Int), .int (u : Int)]) = H5 at sm5 bk5
          have hjc : j < cs.length := by omega
          have hjb : j < bss.length := by
            rw [← bk5.len]
            exact hjc
          obtain ⟨c1, c2⟩ := bk5.col j _ _ (List.getElem?_eq_getElem hjc) (List.getElem?_eq_getElem hjb)
          have hub : u < bss[j].length := by omega
          have c3 := bk5.cell j u _ _ (List.getElem?_eq_getElem hjb) (List.getElem?_eq_getElem hub)
          have fbu : H bss[j][u] = none := fb _ (List.mem_flatten.mpr ⟨_, List.getElem_mem hjb, List.getElem_mem hub⟩)
          have v1 : (vr cs)[j]? = some (.ref cs[j]) := by
            rw [List.getElem?_map, List.getElem?_eq_getElem hjc]
            rfl
          have v2 : (vr bss[j])[u]? = some (.ref bss[j][u]) := by
            rw [List.getElem?_map, List.getElem?_eq_getElem hub]
            rfl
          -- backs[column][target].append(state)
          refine ⟨.ref D, rfl, .int (j : Int), rfl, D, _, (j : Int), .ref cs[j], rfl, rfl, .inl (.inl bk5.top), atI_nat v1, .int (u : Int), rfl, cs[j], _, (u : Int), .ref bss[j][u], rfl, rfl, .inl (.inl c1), atI_nat v2, .inl ⟨rfl, _, .inl (.inl c3)⟩, .int (i : Int), rfl, bss[j][u], _, _, rfl, rfl, c3, ?_, ⟨?_, ?_⟩, _, _, rfl⟩
          · rw [List.length_map]
            have : (if j < j then bkF rows (i + 1) j u else bkF rows i j u).length ≤ i := by
              rw [if_neg (Nat.lt_irrefl j)]
              unfold bkF
              refine Nat.le_trans (List.length_filter_le _ _) ?_
              rw [List.length_range]
              exact Nat.le_refl _
            have := k.big
            exact Nat.lt_of_le_of_lt (show _ ≤ 1000000 by omega) (by decide)
          · intro b' o e
            rw [upd_ne (ne_of_none e fbu)]
            exact sm5 _ _ e
          · have := bk5.put (x := i) (List.getElem?_eq_getElem hjb) (List.getElem?_eq_getElem hub) k.one (by omega)
            rw [vi_snoc]
            refine this.congr fun c t _ => ?_
            by_cases e : c = j ∧ t = u
            · obtain ⟨rfl, rfl⟩ := e
              rw [if_pos ⟨rfl, rfl⟩, if_neg (Nat.lt_irrefl c), if_pos (Nat.lt_succ_self c), bkF_succ, if_pos edl]
            · rw [if_neg e]
              by_cases hc : c < j
              · rw [if_pos hc, if_pos (by omega)]
              · rw [if_neg hc]
                by_cases hcj : c = j
                · subst hcj
                  rw [if_pos (Nat.lt_succ_self c), bkF_succ, if_neg (fun z => e ⟨rfl, by rw [← z, edl]⟩)]
                · rw [if_neg (by omega)]
        · obtain ⟨⟨sm4, bk4⟩, y4, y5, rfl⟩ := hW
          rw [List.length_map] at bk4
          exact ⟨⟨sm4, bk4.congr fun c t hc => by rw [if_pos (by omega)]⟩, _, _, _, _, rfl⟩
      · obtain ⟨⟨sm2, bk2⟩, y2, y3, y4, y5, rfl⟩ := hW
        rw [List.length_map, lT] at bk2
        exact ⟨.ref D, rfl, q _ D cs bss sm2 nD fc fb lc bk2⟩
end
end LH

namespace LH
open PySem PySem.Spec PyProof.Rows L2
/-! ### first_groups -/
def sOf (bs : List Bool) (b : Bool) (i : Nat) : List Nat := (List.range i).filter fun s => decide (bs[s]? = some b)
theorem sOf_succ {bs : List Bool} {b : Bool} {i : Nat} {x : Bool} (h : bs[i]? = some x) : sOf bs b (i + 1) = if x = b then sOf bs b i ++ [i] else sOf bs b i := by
  unfold sOf
  rw [List.range_succ, List.filter_append]
  by_cases e : x = b
  · subst e
    rw [if_pos rfl]
    simp [h]
  · rw [if_neg e]
    simp [h, e]
theorem sOf_mem {bs : List Bool} {b : Bool} {i s : Nat} : s ∈ sOf bs b i ↔ s < i ∧ bs[s]? = some b := by
  unfold sOf
  rw [List.mem_filter, List.mem_range, decide_eq_true_iff]
theorem sOf_nd (bs : List Bool) (b : Bool) (i : Nat) : (sOf bs b i).Nodup := List.nodup_range.filter _
theorem sOf_len (bs : List Bool) (b : Bool) (i : Nat) : (sOf bs b i).length ≤ i := by
  unfold sOf
  refine Nat.le_trans (List.length_filter_le _ _) ?_
  rw [List.length_range]
  exact Nat.le_refl _
structure Pre (bs : List Bool) (gs : List (List Nat)) : Prop where
  nd : ∀ g ∈ gs, g.Nodup ∧ g ≠ []
  ex : ∀ s, s < bs.length → ∃ (h : Nat) (g : List Nat), gs[h]? = some g ∧ s ∈ g
  same : ∀ g ∈ gs, ∀ s, s ∈ g → s < bs.length ∧ ∀ t, t < bs.length → (t ∈ g ↔ bs[t]? = bs[s]?)
  disj : ∀ (h h' : Nat) (g g' : List Nat) (s : Nat), gs[h]? = some g → gs[h']? = some g' → s ∈ g → s ∈ g' → h = h'
theorem pre_of (bs : List Bool) : Pre bs (([sOf bs true bs.length, sOf bs false bs.length]).filter fun g => decide (g ≠ [])) := by
  have mm : ∀ g ∈ ([sOf bs true bs.length, sOf bs false bs.length]).filter (fun g => decide (g ≠ [])), g ≠ [] ∧ ∃ b, g = sOf bs b bs.length := fun g hg => by
    obtain ⟨h1, h2⟩ := List.mem_filter.mp hg
    refine ⟨of_decide_eq_true h2, ?_⟩
    simp only [List.mem_cons, List.mem_nil_iff, or_false] at h1
    rcases h1 with rfl | rfl
    · exact ⟨true, rfl⟩
    · exact ⟨false, rfl⟩
  refine ⟨fun g hg => ?_, fun s hs => ?_, fun g hg s hsg => ?_, fun h h' g g' s hg hg' hsg hsg' => ?_⟩
  · obtain ⟨h1, b, rfl⟩ := mm g hg
    exact ⟨sOf_nd _ _ _, h1⟩
  · have hb : bs[s]? = some bs[s] := List.getElem?_eq_getElem hs
    have hm : s ∈ sOf bs bs[s] bs.length := sOf_mem.mpr ⟨hs, hb⟩
    have : sOf bs bs[s] bs.length ∈ ([sOf bs true bs.length, sOf bs false bs.length]).filter (fun g => decide (g ≠ [])) := by
      refine List.mem_filter.mpr ⟨?_, decide_eq_true (List.ne_nil_of_mem hm)⟩
      cases bs[s] <;> simp
    obtain ⟨h, hh⟩ := List.mem_iff_getElem?.mp this
    exact ⟨h, _, hh, hm⟩
  · obtain ⟨h1, b, rfl⟩ := mm g hg
    obtain ⟨h2, h3⟩ := sOf_mem.mp hsg
    refine ⟨h2, fun t ht => ?_⟩
    rw [sOf_mem, h3]
    exact ⟨fun z => z.2, fun z => ⟨ht, z⟩⟩
  · have key : (([sOf bs true bs.length, sOf bs false bs.length]).filter fun g => decide (g ≠ [])).Nodup ∨ sOf bs true bs.length = [] := by
      by_cases e : sOf bs true bs.length = []
      · exact .inr e
      · refine .inl (List.Pairwise.filter _ ?_)
        show List.Nodup _
        rw [List.nodup_cons]
        refine ⟨fun z => ?_, by simp⟩
        have z : sOf bs true bs.length = sOf bs false bs.length := by simpa using z
        obtain ⟨x, hx⟩ := List.exists_mem_of_ne_nil _ e
        have h1 := (sOf_mem.mp hx).2
        rw [z] at hx
        have h2 := (sOf_mem.mp hx).2
        rw [h1] at h2
        cases h2
    have gg : g = g' := by
      obtain ⟨_, b, rfl⟩ := mm g (List.mem_of_getElem? hg)
      obtain ⟨_, b', rfl⟩ := mm g' (List.mem_of_getElem? hg')
      have h1 := (sOf_mem.mp hsg).2
      have h2 := (sOf_mem.mp hsg').2
      rw [h1] at h2
      cases h2
      rfl
    subst gg
    rcases key with key | key
    · exact nd_ix key hg hg'
    · have : (([sOf bs true bs.length, sOf bs false bs.length]).filter fun g => decide (g ≠ [])).length ≤ 1 := by
        rw [List.filter_cons, if_neg (by simp [key])]
        exact Nat.le_trans (List.length_filter_le _ _) (by simp)
      have a := (List.getElem?_eq_some_iff.mp hg).1
      have b := (List.getElem?_eq_some_iff.mp hg').1
      omega
section
variable {P : Program} {w : World} {K : PySem.W.Frag} {mg : Str → Option Value} {base : Heap}
def sp_first_groups : Sp := fun vs H Q _ => ∃ (e : Addr) (bs : List Bool), vs = [.ref e] ∧ H e = some (.lst (bs.map V.bl)) ∧ bs.length ≤ 1000000 ∧ ∀ H' gr as gs, Same H H' → H gr = none → (∀ a ∈ as, H a = none) → GrpAt H' gr as gs → Pre bs gs → Q (.ref gr) H'
theorem bool_at {bs : List Bool} {i : Nat} {x : V} (h : (bs.map V.bl)[i]? = some x) : ∃ b, bs[i]? = some b ∧ x = .bl b := by
  rw [List.getElem?_map] at h
  cases e : bs[i]? with
  | none =>
    rw [e] at h
    cases h
  | some s =>
    rw [e] at h
    cases h
    exact ⟨s, rfl, rfl⟩
theorem ok_first_groups (T : TX K mg) : FnOk P w K mg base CX0 1 T.a_first_groups T.fd_first_groups ["ended"] sp_first_groups := by
  refine T.F_first_groups.ok sc_first_groups (fun vs H Q E h => ?_) (fun cdv A outer s H vs Q E hr h => ?_)
  · obtain ⟨e, bs, rfl, _⟩ := h
    rfl
  · obtain ⟨e, bs, rfl, he, hbig, q⟩ := h
    refine ⟨_, (pss_cons (ps_set (i := 1) sc_first_groups.nd rfl (Or.inl rfl) pe_dnewK)
      (pss_cons (ps_set (i := 2) sc_first_groups.nd rfl (Or.inl rfl) pe_dnewK)
      (pss_cons (ps_for PassesOwn.never rfl (pi_enumK K rfl (by rfl) T.m_enumerate (pa_cons (pv 0) pa_nil)) (pg_tupK (n := 2) K rfl (by rfl) (pgs_cons (pg_name (i := 3) sc_first_groups.nd rfl (Or.inl rfl)) (pgs_cons (pg_name (i := 4) sc_first_groups.nd rfl (Or.inl rfl)) pgs_nil)))
        (pss_one (ps_if (pt_val (pv 4))
            (pss_one (ps_dput (hu_of hr) (pv 1) (pv 3) pe_bl rfl))
            (pss_one (ps_dput (hu_of hr) (pv 2) (pv 3) pe_bl rfl)))))
      (pss_one (ps_ret (pe_lc (own := [("group", 5)]) (g := gName 5) (by rfl) sc_first_groups.nd (pi_tupK K rfl (pe_tup (pa_cons (pv 1) (pa_cons (pv 2) pa_nil)))) (blkOk_by (own := [("group", 5)]) (N := N_first_groups) (by kernel_rfl)) (fun _ _ _ _ _ => (pg_name (i := 5) sc_first_groups.nd rfl (by first | exact Or.inl rfl | exact Or.inr rfl))) (fun _ _ _ _ _ => (pts_one (pt_cmpR op_gt (pe_callB call_lenD (by rfl) T.m_len (by decide +kernel) (pa_cons (pv 5) pa_nil)) pe_int (nomark _)))) (fun _ _ _ _ _ => (pv 5)))))))), ?_⟩
    refine fun d1 n1 => fun d2 n2 => ?_
    have d12 : d1 ≠ d2 := ne_of_none upd_same n2
    have n2' : H d2 = none := by
      rw [upd_ne (Ne.symm d12)] at n2
      exact n2
    have sm0 : Same H (upd (upd H d1 (.dK [])) d2 (.dK [])) := (same_new n1).trans (same_new n2)
    refine ⟨.ref e, rfl, e, _, rfl, .inl (.inl (sm0 _ _ he)), ?_⟩
    refine for_it (walk_enum (K := K) (a := e) (xs := bs.map V.bl)) (fun i σ H' => (Same H H' ∧ H' d1 = some (.dK (dk (sOf bs true i))) ∧ H' d2 = some (.dK (dk (sOf bs false i)))) ∧ ∃ y3 y4 y5, σ = [some (.ref e), some (.ref d1), some (.ref d2), y3, y4, y5]) ⟨⟨sm0, by rw [upd_ne d12, upd_same]; rfl, upd_same⟩, none, none, none, rfl⟩ (fun i σ H' _ hW => .inl (.inl (hW.1.1 _ _ he))) (fun i x σ H1 H1' hi hW hY => ?_) (fun σ H1 hW => ?_)
    · obtain ⟨⟨sm, h1, h2⟩, y3, y4, y5, rfl⟩ := hW
      obtain ⟨T1, v1, v2, rfl, nT1, rfl, e1, e2⟩ := hY
      cases e1
      obtain ⟨b, hb, rfl⟩ := bool_at e2
      rw [List.length_map] at hi
      refine ⟨T1, [.int (i : Int), .bl b], rfl, .inl (.inl upd_same), rfl, .int (i : Int), [.bl b], rfl, .bl b, [], rfl, rfl, ?_⟩
      have sm1 : Same H (upd H1 T1 (.tup [.int (i : Int), .bl b])) := sm.trans (same_new nT1)
      have g1 := same_new (o := .tup [.int (i : Int), .bl b]) nT1 _ _ h1
      have g2 := same_new (o := .tup [.int (i : Int), .bl b]) nT1 _ _ h2
      have notin : ∀ b, i ∉ sOf bs b i := fun b z => Nat.lt_irrefl _ (sOf_mem.mp z).1
      have small : ∀ b, (dk (sOf bs b i)).length < sizeLine := fun b => by
        rw [List.length_map]
        have := sOf_len bs b i
        exact Nat.lt_of_le_of_lt (show _ ≤ 1000000 by omega) (by decide)
      refine ⟨.bl b, rfl, b, rfl, ?_⟩
      cases b with
      | true =>
        refine iteT ?_
        refine ⟨.ref d1, rfl, .int (i : Int), rfl, d1, _, rfl, DPut.k (k := Sum.inl (i : Int)) g1 (small true), ⟨?_, ?_, ?_⟩, _, _, _, rfl⟩
        · intro b o e'
          rw [upd_ne (ne_of_none e' n1)]
          exact sm1 _ _ e'
        · rw [upd_same, putK_dk (notin true), sOf_succ hb, if_pos rfl]
        · rw [upd_ne (Ne.symm d12), sOf_succ hb, if_neg (by decide)]
          exact g2
      | false =>
        refine iteF ?_
        refine ⟨.ref d2, rfl, .int (i : Int), rfl, d2, _, rfl, DPut.k (k := Sum.inl (i : Int)) g2 (small false), ⟨?_, ?_, ?_⟩, _, _, _, rfl⟩
        · intro b o e'
          rw [upd_ne (ne_of_none e' n2')]
          exact sm1 _ _ e'
        · rw [upd_ne d12, sOf_succ hb, if_neg (by decide)]
          exact g1
        · rw [upd_same, putK_dk (notin false), sOf_succ hb, if_pos rfl]
    · obtain ⟨⟨sm, h1, h2⟩, y3, y4, y5, rfl⟩ := hW
      rw [List.length_map] at h1 h2
      refine ⟨.ref d1, rfl, .ref d2, rfl, by show 2 ≤ sizeLine; decide, fun t nt => ?_⟩
      refine ⟨t, rfl, ⟨_, .inl (.inl upd_same)⟩, fun D nD => ?_⟩
      have fD : H D = none := (sm.trans (same_new nt)).free nD
      have tD : t ≠ D := ne_of_none upd_same nD
      have g1 := same_new (o := .tup [.ref d1, .ref d2]) nt _ _ h1
      have g2 := same_new (o := .tup [.ref d1, .ref d2]) nt _ _ h2
      have e1D : d1 ≠ D := ne_of_none g1 nD
      have e2D : d2 ≠ D := ne_of_none g2 nD
      have ft : H t = none := sm.free nt
      refine lc_it (walk_tup (K := K) (a := t) (xs := [.ref d1, .ref d2])) (fun i H' => (Same H H' ∧ H' t = some (.tup [.ref d1, .ref d2]) ∧ H' d1 = some (.dK (dk (sOf bs true bs.length))) ∧ H' d2 = some (.dK (dk (sOf bs false bs.length)))) ∧ H' D = some (.lst (vr (((([(d1, sOf bs true bs.length), (d2, sOf bs false bs.length)] : List (Addr × List Nat)).take i).filter fun p => decide (p.2 ≠ [])).map (·.1))))) ⟨⟨(sm.trans (same_new nt)).trans (same_new nD), by rw [upd_ne tD, upd_same], same_new nD _ _ g1, same_new nD _ _ g2⟩, upd_same⟩ (fun i H' _ hW => .inl (.inl hW.1.2.1)) (fun i x H2 H2' hi hW hY => ?_) (fun H2 hW => ?_)
      · obtain ⟨⟨sm2, ht2, k1, k2⟩, kD⟩ := hW
        obtain ⟨rfl, hx⟩ := hY
        have step : ∀ (d : Addr) (g : List Nat), ([(d1, sOf bs true bs.length), (d2, sOf bs false bs.length)] : List (Addr × List Nat))[i]? = some (d, g) → x = .ref d → H2' d = some (.dK (dk g)) → gName 5 x (wipe [some (.ref e), some (.ref d1), some (.ref d2), y3, y4, y5] [5]) H2' fun σ2 H2 => wipe σ2 [5] = wipe [some (.ref e), some (.ref d1), some (.ref d2), y3, y4, y5] [5] ∧
            (tTest (tOp (rI0 fun i j => V.bl (decide (j < i))) (tCB (fun xs H Q => ∃ a kvs, xs = [V.ref a] ∧ H a = some (.dK kvs) ∧ Q (.int kvs.length) H) (tCons (tVar 5) tNil)) (tC (.int 0)))) σ2 H2 fun b H3 => if b = true then (tVar 5) σ2 H3 fun y H4 => ∃ acc, H4 D = some (.lst acc) ∧ acc.length < sizeLine ∧
              ((Same H (upd H4 D (.lst (acc ++ [y]))) ∧ (upd H4 D (.lst (acc ++ [y]))) t = some (.tup [.ref d1, .ref d2]) ∧ (upd H4 D (.lst (acc ++ [y]))) d1 = some (.dK (dk (sOf bs true bs.length))) ∧ (upd H4 D (.lst (acc ++ [y]))) d2 = some (.dK (dk (sOf bs false bs.length)))) ∧ (upd H4 D (.lst (acc ++ [y]))) D = some (.lst (vr (((([(d1, sOf bs true bs.length), (d2, sOf bs false bs.length)] : List (Addr × List Nat)).take (i + 1)).filter fun p => decide (p.2 ≠ [])).map (·.1)))))
              else ((Same H H3 ∧ H3 t = some (.tup [.ref d1, .ref d2]) ∧ H3 d1 = some (.dK (dk (sOf bs true bs.length))) ∧ H3 d2 = some (.dK (dk (sOf bs false bs.length)))) ∧ H3 D = some (.lst (vr (((([(d1, sOf bs true bs.length), (d2, sOf bs false bs.length)] : List (Addr × List Nat)).take (i + 1)).filter fun p => decide (p.2 ≠ [])).map (·.1))))) := by
          intro d g hp hx' hd
          subst hx'
          refine ⟨rfl, .ref d, rfl, d, _, rfl, hd, _, 0, rfl, rfl, _, rfl, ite2 (fun z => ?_) (fun z => ?_)⟩
          · have hne : g ≠ [] := fun y => by
              subst y
              have := of_decide_eq_true z
              exact absurd this (by decide)
            refine ⟨.ref d, rfl, _, kD, ?_, ⟨?_, ?_, ?_, ?_⟩, ?_⟩
            · rw [List.length_map, List.length_map]
              refine Nat.lt_of_le_of_lt (List.length_filter_le _ _) ?_
              rw [List.length_take]
              exact Nat.lt_of_le_of_lt (show _ ≤ 1000 by simp; omega) (by decide)
            · intro b o e'
              rw [upd_ne (ne_of_none e' fD)]
              exact sm2 _ _ e'
            · rw [upd_ne tD]
              exact ht2
            · rw [upd_ne e1D]
              exact k1
            · rw [upd_ne e2D]
              exact k2
            · rw [upd_same, take_snoc hp, List.filter_append, List.map_append]
              have : ([(d, g)].filter fun p => decide (p.2 ≠ [])) = [(d, g)] := by simp [hne]
              rw [this]
              exact congrArg (fun z => some (HO.lst z)) (vr_snoc _ d)
          · have hne : g = [] := by
              cases g with
              | nil => rfl
              | cons a r =>
                refine absurd (decide_eq_true ?_) z
                rw [List.length_map]
                show (0 : Int) < ((r.length + 1 : Nat) : Int)
                omega
            refine ⟨⟨sm2, ht2, k1, k2⟩, ?_⟩
            rw [take_snoc hp, List.filter_append]
            have : ([(d, g)].filter fun p => decide (p.2 ≠ [])) = [] := by simp [hne]
            rw [this, List.append_nil]
            exact kD
        have hi2 : i < 2 := hi
        have hi3 : i = 0 ∨ i = 1 := by omega
        rcases hi3 with rfl | rfl
        · cases hx
          exact step d1 _ rfl rfl k1
        · cases hx
          exact step d2 _ rfl rfl k2
      · obtain ⟨⟨sm2, ht2, k1, k2⟩, kD⟩ := hW
        have pr := pre_of bs
        have em : (([(d1, sOf bs true bs.length), (d2, sOf bs false bs.length)] : List (Addr × List Nat)).filter fun p => decide (p.2 ≠ [])).map (·.2) = ([sOf bs true bs.length, sOf bs false bs.length]).filter fun g => decide (g ≠ []) := by
          rw [show [sOf bs true bs.length, sOf bs false bs.length] = ([(d1, sOf bs true bs.length), (d2, sOf bs false bs.length)] : List (Addr × List Nat)).map (·.2) from rfl, List.filter_map]
          rfl
        rw [← em] at pr
        have al : ∀ p ∈ ([(d1, sOf bs true bs.length), (d2, sOf bs false bs.length)] : List (Addr × List Nat)), H p.1 = none ∧ H2 p.1 = some (.dK (dk p.2)) := fun p hp => by
          simp only [List.mem_cons, List.mem_nil_iff, or_false] at hp
          rcases hp with rfl | rfl
          · exact ⟨n1, k1⟩
          · exact ⟨n2', k2⟩
        refine q H2 D _ _ sm2 fD (fun a ha => ?_) ⟨kD, ?_, ?_, fun i a g x y => ?_⟩ pr
        · obtain ⟨p, hp, rfl⟩ := List.mem_map.mp ha
          exact (al p (List.mem_filter.mp hp).1).1
        · have s1 : (((([(d1, sOf bs true bs.length), (d2, sOf bs false bs.length)] : List (Addr × List Nat))).filter fun p => decide (p.2 ≠ [])).map (·.1)).Sublist [d1, d2] := (List.filter_sublist (l := [(d1, sOf bs true bs.length), (d2, sOf bs false bs.length)])).map _
          exact s1.nodup (by simp [d12])
        · rw [List.length_map, List.length_map]
          rfl
        · rw [List.getElem?_map] at x y
          obtain ⟨p, hp, rfl⟩ := Option.map_eq_some_iff.mp x
          have hp' : ((([(d1, sOf bs true bs.length), (d2, sOf bs false bs.length)] : List (Addr × List Nat))).filter fun p => decide (p.2 ≠ []))[i]? = some p := hp
          rw [hp'] at y
          cases y
          exact (al p (List.mem_filter.mp (List.mem_of_getElem? hp')).1).2
end
end LH

namespace LH
open PySem PySem.Spec PyProof.Rows L2
/-! ### like states -/
def runs (rows : List (List Nat)) (s : Nat) (w : List Nat) : Nat := w.foldl (dl rows) s
def Eqv (rows : List (List Nat)) (bs : List Bool) (L s t : Nat) : Prop := ∀ w : List Nat, (∀ c ∈ w, c < L) → bs[runs rows s w]? = bs[runs rows t w]?
theorem Eqv.step {rows : List (List Nat)} {bs : List Bool} {L s t c : Nat} (h : Eqv rows bs L s t) (hc : c < L) : Eqv rows bs L (dl rows s c) (dl rows t c) := fun w hw => h (c :: w) fun d hd => by
  rcases List.mem_cons.mp hd with rfl | hd
  · exact hc
  · exact hw d hd
structure PInv (rows : List (List Nat)) (bs : List Bool) (n L a : Nat) (gs : List (List Nat)) (hl : List Nat) : Prop where
  part : Part n gs hl
  co : ∀ s t, s < n → t < n → Eqv rows bs L s t → hl[s]? = hl[t]?
  fin : ∀ s t, s < n → t < n → hl[s]? = hl[t]? → bs[s]? = bs[t]?
  st : ∀ s t c p q, s < n → t < n → c < L → hl[s]? = hl[t]? → hl[dl rows s c]? = some p → hl[dl rows t c]? = some q → p < a → q < a → p = q
theorem PInv.last {rows : List (List Nat)} {bs : List Bool} {n L a : Nat} {gs : List (List Nat)} {hl : List Nat} (k : TabOk n L rows) (h : PInv rows bs n L a gs hl) (ha : gs.length ≤ a) : ∀ s t, s < n → t < n → (hl[s]? = hl[t]? ↔ Eqv rows bs L s t) := by
  intro s t hs ht
  refine ⟨fun e w => ?_, h.co s t hs ht⟩
  induction w generalizing s t with
  | nil => exact fun _ => h.fin s t hs ht e
  | cons c w ih =>
    intro hw
    have hc := hw c (List.mem_cons_self ..)
    have h1 := k.dl_lt hs hc
    have h2 := k.dl_lt ht hc
    have l1 : dl rows s c < hl.length := by rw [h.part.len]; exact h1
    have l2 : dl rows t c < hl.length := by rw [h.part.len]; exact h2
    have g1 : hl[dl rows s c]? = some hl[dl rows s c] := List.getElem?_eq_getElem l1
    have g2 : hl[dl rows t c]? = some hl[dl rows t c] := List.getElem?_eq_getElem l2
    have := h.st s t c _ _ hs ht hc e g1 g2 (Nat.lt_of_lt_of_le (h.part.lt _ _ g1) ha) (Nat.lt_of_lt_of_le (h.part.lt _ _ g2) ha)
    exact ih _ _ h1 h2 (by rw [g1, g2, this]) fun d hd => hw d (List.mem_cons_of_mem _ hd)
structure Ref (n k : Nat) (hl0 hl : List Nat) : Prop where
  fine : ∀ s t, s < n → t < n → hl[s]? = hl[t]? → hl0[s]? = hl0[t]?
  low : ∀ (s h : Nat), hl[s]? = some h → h < k → hl0[s]? = some h
theorem Ref.refl (n k : Nat) (hl : List Nat) : Ref n k hl hl := ⟨fun _ _ _ _ h => h, fun _ _ h _ => h⟩
theorem Ref.trans {n k k' : Nat} {a b c : List Nat} (h : Ref n k a b) (h' : Ref n k' b c) (l : k ≤ k') : Ref n k a c := ⟨fun s t hs ht e => h.fine s t hs ht (h'.fine s t hs ht e), fun s x e lt => h.low s x (h'.low s x e (by omega)) lt⟩
theorem Split.ref {n home : Nat} {gs gs' : List (List Nat)} {hl hl' hit : List Nat} (p : Part n gs hl) (h : Split n gs gs' hl hl' home hit) : Ref n gs.length hl hl' := by
  obtain ⟨B, hB, _⟩ := h.map
  refine ⟨fun s t hs ht e => ?_, fun s x e lt => ?_⟩
  · rw [hB s, hB t] at e
    by_cases c1 : hl[s]? = some home ∧ B s = true
    · rw [if_pos c1] at e
      by_cases c2 : hl[t]? = some home ∧ B t = true
      · rw [c1.1, c2.1]
      · rw [if_neg c2] at e
        exact absurd (p.lt t _ e.symm) (Nat.lt_irrefl _)
    · rw [if_neg c1] at e
      by_cases c2 : hl[t]? = some home ∧ B t = true
      · rw [if_pos c2] at e
        exact absurd (p.lt s _ e) (Nat.lt_irrefl _)
      · rw [if_neg c2] at e
        exact e
  · rw [hB s] at e
    by_cases c1 : hl[s]? = some home ∧ B s = true
    · rw [if_pos c1] at e
      cases e
      omega
    · rw [if_neg c1] at e
      exact e
/-- two states of one new group: both hit or none -/
theorem Split.sep {n home : Nat} {gs gs' : List (List Nat)} {hl hl' hit : List Nat} (p : Part n gs hl) (h : Split n gs gs' hl hl' home hit) {s t : Nat} (hs : s < n) (ht : t < n) (e : hl'[s]? = hl'[t]?) (hh : hl[s]? = some home) : (s ∈ hit ↔ t ∈ hit) := by
  have ht' : hl[t]? = some home := by rw [← (h.ref p).fine s t hs ht e]; exact hh
  obtain ⟨B, hB, hc⟩ := h.map
  have bb : B s = true ↔ B t = true := by
    rw [hB s, hB t] at e
    by_cases c1 : B s = true
    · rw [if_pos ⟨hh, c1⟩] at e
      by_cases c2 : B t = true
      · exact ⟨fun _ => c2, fun _ => c1⟩
      · rw [if_neg (fun z => c2 z.2)] at e
        exact absurd (p.lt t _ e.symm) (Nat.lt_irrefl _)
    · rw [if_neg (fun z => c1 z.2)] at e
      by_cases c2 : B t = true
      · rw [if_pos ⟨ht', c2⟩] at e
        exact absurd (p.lt s _ e) (Nat.lt_irrefl _)
      · exact ⟨fun z => absurd z c1, fun z => absurd z c2⟩
  rcases hc with hc | hc
  · rw [← hc s hh, ← hc t ht', bb]
  · have h1 := hc s hh
    have h2 := hc t ht'
    by_cases q1 : s ∈ hit
    · by_cases q2 : t ∈ hit
      · exact ⟨fun _ => q2, fun _ => q1⟩
      · exact absurd q1 (h1.mp (bb.mpr (h2.mpr q2)))
    · by_cases q2 : t ∈ hit
      · exact absurd q2 (h2.mp (bb.mp (h1.mpr q1)))
      · exact ⟨fun z => absurd z q1, fun z => absurd z q2⟩
theorem Split.stay {n home : Nat} {gs gs' : List (List Nat)} {hl hl' hit : List Nat} (h : Split n gs gs' hl hl' home hit) {s x : Nat} (e : hl[s]? = some x) (ne : x ≠ home) : hl'[s]? = some x := by
  obtain ⟨B, hB, _⟩ := h.map
  rw [hB s, if_neg (fun z => ne (by rw [e] at z; exact Option.some.inj z.1))]
  exact e
theorem Split.co {n home : Nat} {gs gs' : List (List Nat)} {hl hl' hit : List Nat} (h : Split n gs gs' hl hl' home hit) {s t : Nat} (e : hl[s]? = hl[t]?) (hst : hl[s]? = some home → (s ∈ hit ↔ t ∈ hit)) : hl'[s]? = hl'[t]? := by
  obtain ⟨B, hB, hc⟩ := h.map
  rw [hB s, hB t]
  by_cases c : hl[s]? = some home
  · have c' : hl[t]? = some home := by rw [← e]; exact c
    have bb : B s = true ↔ B t = true := by
      rcases hc with hc | hc
      · rw [hc s c, hc t c', hst c]
      · rw [hc s c, hc t c', hst c]
    by_cases b : B s = true
    · rw [if_pos ⟨c, b⟩, if_pos ⟨c', bb.mp b⟩]
    · rw [if_neg (fun z => b z.2), if_neg (fun z => b (bb.mpr z.2)), e]
  · rw [if_neg (fun z => c z.1), if_neg (fun z => c (by rw [e]; exact z.1)), e]
/-- within a letter: the homes told so far are parted -/
structure HInv (rows : List (List Nat)) (bs : List Bool) (n L k1 : Nat) (hl1 F : List Nat) (es : List Ent) (j : Nat) (gs : List (List Nat)) (hl : List Nat) : Prop where
  part : Part n gs hl
  co : ∀ s t, s < n → t < n → Eqv rows bs L s t → hl[s]? = hl[t]?
  ref : Ref n k1 hl1 hl
  kept : ∀ (s h : Nat), hl1[s]? = some h → (∀ (i : Nat) (e : Ent), i < j → es[i]? = some e → e.1 ≠ h) → hl[s]? = some h
  sep : ∀ s t, s < n → t < n → hl[s]? = hl[t]? → (∃ (i : Nat) (e : Ent), i < j ∧ es[i]? = some e ∧ hl1[s]? = some e.1) → (s ∈ F ↔ t ∈ F)
  grow : k1 ≤ gs.length
theorem HInv.step {rows : List (List Nat)} {bs : List Bool} {n L k1 j : Nat} {hl1 F : List Nat} {es : List Ent} {gs gs' : List (List Nat)} {hl hl' : List Nat} {e : Ent} (h : HInv rows bs n L k1 hl1 F es j gs hl) (he : es[j]? = some e) (nd : (es.map (·.1)).Nodup) (hx : e.2.2 = F.filter fun s => decide (hl1[s]? = some e.1))
    (cl : ∀ s t, s < n → t < n → Eqv rows bs L s t → (s ∈ F ↔ t ∈ F)) (sp : Split n gs gs' hl hl' e.1 e.2.2) : HInv rows bs n L k1 hl1 F es (j + 1) gs' hl' := by
  have keyne : ∀ (i : Nat) (e' : Ent), i < j → es[i]? = some e' → e'.1 ≠ e.1 := fun i e' hi hi' z => by
    have a : (es.map (·.1))[i]? = some e'.1 := by rw [List.getElem?_map, hi']; rfl
    have b : (es.map (·.1))[j]? = some e'.1 := by rw [List.getElem?_map, he, z]; rfl
    have := nd_ix nd a b
    omega
  have mem : ∀ s, hl1[s]? = some e.1 → (s ∈ e.2.2 ↔ s ∈ F) := fun s hs => by
    rw [hx, List.mem_filter]
    exact ⟨fun z => z.1, fun z => ⟨z, decide_eq_true hs⟩⟩
  have back : ∀ s, hl[s]? = some e.1 → e.1 < k1 → hl1[s]? = some e.1 := fun s hs lt => h.ref.low s _ hs lt
  have r2 := sp.ref h.part
  refine ⟨sp.part, fun s t hs ht q => sp.co (h.co s t hs ht q) fun hh => ?_, h.ref.trans r2 h.grow, fun s x hs hn => ?_, fun s t hs ht q hi => ?_, Nat.le_trans h.grow sp.grow⟩
  · rw [hx, List.mem_filter, List.mem_filter, cl s t hs ht q]
    have f1 := h.ref.fine s t hs ht (h.co s t hs ht q)
    rw [f1]
  · refine sp.stay (h.kept s x hs fun i e' hi hi' => hn i e' (by omega) hi') fun z => ?_
    exact hn j e (Nat.lt_succ_self j) he z.symm
  · have q' := r2.fine s t hs ht q
    obtain ⟨i, e', hi, hi', hs'⟩ := hi
    by_cases c : i < j
    · exact h.sep s t hs ht q' ⟨i, e', c, hi', hs'⟩
    · have : i = j := by omega
      subst this
      rw [he] at hi'
      cases hi'
      have hs2 : hl[s]? = some e.1 := h.kept s _ hs' fun i e' hi hi' => keyne i e' hi hi'
      have := sp.sep h.part hs ht q hs2
      rw [mem s hs', mem t (by rw [← h.ref.fine s t hs ht q']; exact hs')] at this
      exact this
/-- by letters: behind c of them the targets are told apart -/
structure LInv (rows : List (List Nat)) (bs : List Bool) (n L k0 : Nat) (hl0 g : List Nat) (c : Nat) (gs : List (List Nat)) (hl : List Nat) : Prop where
  part : Part n gs hl
  co : ∀ s t, s < n → t < n → Eqv rows bs L s t → hl[s]? = hl[t]?
  ref : Ref n k0 hl0 hl
  sep : ∀ s t a, s < n → t < n → hl[s]? = hl[t]? → a < c → (dl rows s a ∈ g ↔ dl rows t a ∈ g)
  grow : k0 ≤ gs.length
theorem HInv.last {rows : List (List Nat)} {bs : List Bool} {n L k0 c : Nat} {hl0 hl1 g F : List Nat} {es : List Ent} {gs1 gs : List (List Nat)} {hl : List Nat} (l : LInv rows bs n L k0 hl0 g c gs1 hl1) (h : HInv rows bs n L gs1.length hl1 F es es.length gs hl) (hF : ∀ s, s ∈ F ↔ s < n ∧ dl rows s c ∈ g)
    (all : ∀ s ∈ F, ∃ e ∈ es, hl1[s]? = some e.1) : LInv rows bs n L k0 hl0 g (c + 1) gs hl := by
  refine ⟨h.part, h.co, l.ref.trans h.ref l.grow, fun s t a hs ht q ha => ?_, Nat.le_trans l.grow h.grow⟩
  have q1 := h.ref.fine s t hs ht q
  by_cases e : a < c
  · exact l.sep s t a hs ht q1 e
  · have : a = c := by omega
    subst this
    have key : s ∈ F ↔ t ∈ F := by
      by_cases z : ∃ (i : Nat) (e : Ent), i < es.length ∧ es[i]? = some e ∧ hl1[s]? = some e.1
      · exact h.sep s t hs ht q z
      · refine ⟨fun y => ?_, fun y => ?_⟩
        · obtain ⟨e, he, q2⟩ := all s y
          obtain ⟨i, hi⟩ := List.mem_iff_getElem?.mp he
          exact absurd ⟨i, e, (List.getElem?_eq_some_iff.mp hi).1, hi, q2⟩ z
        · obtain ⟨e, he, q2⟩ := all t y
          obtain ⟨i, hi⟩ := List.mem_iff_getElem?.mp he
          exact absurd ⟨i, e, (List.getElem?_eq_some_iff.mp hi).1, hi, by rw [q1]; exact q2⟩ z
    rw [hF s, hF t] at key
    exact ⟨fun z => (key.mp ⟨hs, z⟩).2, fun z => (key.mpr ⟨ht, z⟩).2⟩
theorem LInv.last {rows : List (List Nat)} {bs : List Bool} {n L a : Nat} {hl0 g : List Nat} {gs0 gs : List (List Nat)} {hl : List Nat} (p : PInv rows bs n L a gs0 hl0) (ha : gs0[a]? = some g) (l : LInv rows bs n L gs0.length hl0 g L gs hl) : PInv rows bs n L (a + 1) gs hl := by
  have hlt : a < gs0.length := (List.getElem?_eq_some_iff.mp ha).1
  refine ⟨l.part, l.co, fun s t hs ht q => p.fin s t hs ht (l.ref.fine s t hs ht q), fun s t c x y hs ht hc q hx hy lx ly => ?_⟩
  have hx0 := l.ref.low _ _ hx (by omega)
  have hy0 := l.ref.low _ _ hy (by omega)
  have sp := l.sep s t c hs ht q hc
  rw [p.part.mem a g ha, p.part.mem a g ha, hx0, hy0] at sp
  by_cases e1 : x = a
  · rw [e1] at sp
    have := sp.mp rfl
    rw [e1]
    exact (Option.some.inj this).symm
  · by_cases e2 : y = a
    · rw [e2] at sp
      exact absurd (Option.some.inj (sp.mpr rfl)) e1
    · exact p.st s t c x y hs ht hc (l.ref.fine s t hs ht q) hx0 hy0 (by omega) (by omega)
theorem flat_mem {rows : List (List Nat)} {n L c : Nat} {g : List Nat} (k : TabOk n L rows) (hc : c < L) (hg : ∀ s ∈ g, s < n) : ∀ s, s ∈ flat ((List.range n).map (bkF rows n c)) g ↔ s < n ∧ dl rows s c ∈ g := fun s => by
  have wd : ∀ t, t < n → ((List.range n).map (bkF rows n c)).getD t [] = bkF rows n c t := fun t ht => by
    rw [List.getD_eq_getElem?_getD, List.getElem?_map, List.getElem?_range ht]
    rfl
  have bm : ∀ t, s ∈ bkF rows n c t ↔ s < n ∧ dl rows s c = t := fun t => by
    unfold bkF
    rw [List.mem_filter, List.mem_range, decide_eq_true_iff]
  unfold flat
  rw [List.mem_flatten]
  constructor
  · rintro ⟨l, hl, hs⟩
    obtain ⟨t, ht, rfl⟩ := List.mem_map.mp hl
    rw [wd t (hg t ht), bm t] at hs
    exact ⟨hs.1, by rw [hs.2]; exact ht⟩
  · intro h
    exact ⟨_, List.mem_map.mpr ⟨_, h.2, rfl⟩, by rw [wd _ (hg _ h.2), bm]; exact ⟨h.1, rfl⟩⟩
theorem flat_nd {rows : List (List Nat)} {n c : Nat} : ∀ {g : List Nat}, g.Nodup → (∀ s ∈ g, s < n) → (flat ((List.range n).map (bkF rows n c)) g).Nodup
  | [], _, _ => List.nodup_nil
  | t :: r, nd, hg => by
    have wd : ∀ t, t < n → ((List.range n).map (bkF rows n c)).getD t [] = bkF rows n c t := fun t ht => by
      rw [List.getD_eq_getElem?_getD, List.getElem?_map, List.getElem?_range ht]
      rfl
    have nd' := List.nodup_cons.mp nd
    show (((List.range n).map (bkF rows n c)).getD t [] ++ flat ((List.range n).map (bkF rows n c)) r).Nodup
    rw [wd t (hg t (List.mem_cons_self ..)), List.nodup_append]
    refine ⟨List.nodup_range.filter _, flat_nd nd'.2 fun s hs => hg s (List.mem_cons_of_mem _ hs), fun x hx y hy e => ?_⟩
    subst e
    unfold flat at hy
    obtain ⟨l, hl, hs⟩ := List.mem_flatten.mp hy
    obtain ⟨t', ht', rfl⟩ := List.mem_map.mp hl
    rw [wd t' (hg t' (List.mem_cons_of_mem _ ht'))] at hs
    have a := of_decide_eq_true (List.mem_filter.mp hx).2
    have b := of_decide_eq_true (List.mem_filter.mp hs).2
    exact nd'.1 (by rw [← a, b]; exact ht')
end LH

namespace LH
open PySem PySem.Spec PyProof.Rows L2
theorem find_nd {es : List Ent} {j : Nat} {e : Ent} (nd : (es.map (·.1)).Nodup) (h : es[j]? = some e) : (es.find? fun x => decide (x.1 = e.1)) = some e := by
  induction es generalizing j with
  | nil => simp at h
  | cons a r ih =>
    rw [List.map_cons, List.nodup_cons] at nd
    rw [List.find?_cons]
    cases j with
    | zero =>
      cases h
      simp
    | succ j =>
      have h' : r[j]? = some e := by simpa using h
      have hne : ¬ a.1 = e.1 := fun z => nd.1 (by rw [z]; exact List.mem_map.mpr ⟨e, List.mem_of_getElem? h', rfl⟩)
      simp only [hne, decide_false]
      exact ih nd.2 h'
theorem ek_get {es : List Ent} {i : Nat} {k : Key} {v : V} (h : (ek es)[i]? = some (k, v)) : ∃ e, es[i]? = some e ∧ k = Sum.inl (e.1 : Int) ∧ v = .ref e.2.1 := by
  rw [List.getElem?_map] at h
  cases e : es[i]? with
  | none =>
    rw [e] at h
    cases h
  | some s =>
    rw [e] at h
    cases h
    exact ⟨s, rfl, rfl, rfl⟩
theorem BK.off {H H' : Hp} {bk gr ho : Addr} {cs as : List Addr} {bss : List (List Addr)} {gs : List (List Nat)} {n : Nat} {F : Nat → Nat → List Nat} (h : BK H bk cs bss n F) (G : GrpAt H gr as gs) (nB : ∀ b, b = bk ∨ b ∈ cs ∨ b ∈ bss.flatten → b ≠ gr ∧ b ≠ ho) (off : OffG gr ho as H H') : BK H' bk cs bss n F := by
  have key : ∀ b xs, (b = bk ∨ b ∈ cs ∨ b ∈ bss.flatten) → H b = some (.lst xs) → H' b = some (.lst xs) := fun b xs hb e => off b _ (nB b hb).1 (nB b hb).2 (G.not e (by intro g z; cases z)) e
  refine ⟨key _ _ (.inl rfl) h.top, h.len, fun c a bs x y => ?_, fun c t bs b x y => ?_, h.nd⟩
  · obtain ⟨z1, z2⟩ := h.col c a bs x y
    exact ⟨key _ _ (.inr (.inl (List.mem_of_getElem? x))) z1, z2⟩
  · exact key _ _ (.inr (.inr (List.mem_flatten.mpr ⟨bs, List.mem_of_getElem? x, List.mem_of_getElem? y⟩))) (h.cell c t bs b x y)
theorem BK.lol {H : Hp} {bk : Addr} {cs : List Addr} {bss : List (List Addr)} {n : Nat} {F : Nat → Nat → List Nat} (h : BK H bk cs bss n F) {c : Nat} {a : Addr} (ha : cs[c]? = some a) : ∃ bs, LolAt H a bs ((List.range n).map (F c)) := by
  have hc : c < bss.length := by
    rw [← h.len]
    exact (List.getElem?_eq_some_iff.mp ha).1
  obtain ⟨z1, z2⟩ := h.col c a _ ha (List.getElem?_eq_getElem hc)
  refine ⟨bss[c], z1, by rw [List.length_map, List.length_range]; exact z2, fun t b w x y => ?_⟩
  have ht : t < n := by
    have := (List.getElem?_eq_some_iff.mp x).1
    omega
  rw [List.getElem?_map, List.getElem?_range ht] at y
  cases y
  exact h.cell c t _ b (List.getElem?_eq_getElem hc) x
theorem PInv.start {rows : List (List Nat)} {bs : List Bool} {n L : Nat} {gs : List (List Nat)} {hl : List Nat} (pr : Pre bs gs) (hn : bs.length = n) (len : hl.length = n) (hh : ∀ (s h : Nat) (g : List Nat), gs[h]? = some g → s ∈ g → hl[s]? = some h) : PInv rows bs n L 0 gs hl := by
  have bk : ∀ (s h : Nat), hl[s]? = some h → ∃ g, gs[h]? = some g ∧ s ∈ g := fun s h e => by
    have hs : s < n := by
      rw [← len]
      exact (List.getElem?_eq_some_iff.mp e).1
    obtain ⟨h', g, hg, hm⟩ := pr.ex s (by omega)
    have := hh s h' g hg hm
    rw [e] at this
    cases this
    exact ⟨g, hg, hm⟩
  have part : Part n gs hl := ⟨len, fun h g hg s => ⟨fun z => hh s h g hg z, fun z => by
      obtain ⟨g', hg', hm⟩ := bk s h z
      rw [hg] at hg'
      cases hg'
      exact hm⟩, fun s h e => by
      obtain ⟨g, hg, _⟩ := bk s h e
      exact (List.getElem?_eq_some_iff.mp hg).1, fun g hg => (pr.nd g hg).1, fun g hg => (pr.nd g hg).2⟩
  refine ⟨part, fun s t hs ht e => ?_, fun s t hs ht e => ?_, fun s t c p q _ _ _ _ _ _ lp _ => absurd lp (Nat.not_lt_zero p)⟩
  · obtain ⟨h, g, hg, hm⟩ := pr.ex s (by omega)
    have e0 : bs[s]? = bs[t]? := e [] (fun _ h => nomatch h)
    have hm' : t ∈ g := ((pr.same g (List.mem_of_getElem? hg) s hm).2 t (by omega)).mpr e0.symm
    rw [hh s h g hg hm, hh t h g hg hm']
  · obtain ⟨h, g, hg, hm⟩ := pr.ex s (by omega)
    have es := hh s h g hg hm
    rw [es] at e
    obtain ⟨g', hg', hm'⟩ := bk t h e.symm
    rw [hg] at hg'
    cases hg'
    exact (((pr.same g (List.mem_of_getElem? hg) s hm).2 t (by omega)).mp hm').symm
section
variable {P : Program} {w : World} {K : PySem.W.Frag} {mg : Str → Option Value} {base : Heap}
def sp_parted : Sp := fun vs H Q _ => ∃ (tb e : Addr) (ras : List Addr) (rows : List (List Nat)) (bs : List Bool) (n L : Nat), vs = [.ref tb, .ref e] ∧ LolAt H tb ras rows ∧ TabOk n L rows ∧ H e = some (.lst (bs.map V.bl)) ∧ bs.length = n ∧
  ∀ H' ho hl, Same H H' → H ho = none → H' ho = some (.lst (vi hl)) → hl.length = n → (∀ s t, s < n → t < n → (hl[s]? = hl[t]? ↔ Eqv rows bs L s t)) → Q (.ref ho) H'
theorem ok_parted (T : TX K mg) : FnOk P w K mg base CX0 2 T.a_parted T.fd_parted ["table", "ended"] sp_parted := by
  have G_first_groups : FnOk P w K mg base CX0 1 T.a_first_groups T.fd_first_groups ["ended"] sp_first_groups := ok_first_groups T
  have G_ways_back : FnOk P w K mg base CX0 1 T.a_ways_back T.fd_ways_back ["table"] sp_ways_back := ok_ways_back T
  have G_hits_of : FnOk P w K mg base CX0 1 T.a_hits_of T.fd_hits_of ["back", "targets", "homes"] sp_hits_of := ok_hits_of T
  have G_split_group : FnOk P w K mg base CX0 1 T.a_split_group T.fd_split_group ["groups", "homes", "home", "hit"] sp_split_group := ok_split_group T
  refine T.F_parted.ok sc_parted (fun vs H Q E h => ?_) (fun cdv A outer s H vs Q E hr h => ?_)
  · obtain ⟨tb, e, ras, rows, bs, n, L, rfl, _⟩ := h
    rfl
  · obtain ⟨tb, e, ras, rows, bs, n, L, rfl, hT, k, he, hbs, q⟩ := h
    refine ⟨_, (pss_cons (ps_set (i := 2) sc_parted.nd rfl (Or.inl rfl) (pe_call G_first_groups (hr.mono (by decide)) (by rfl) T.g_first_groups T.F_first_groups.kp T.b_first_groups .nil pass0 (pa_cons (pv 1) pa_nil)))
      (pss_cons (ps_setLc (i := 3) (own := [("row", 13)]) (g := gName 13) (tt := tYes) (by rfl) sc_parted.nd rfl rfl (sw_true rfl rfl rfl (by decide +kernel)) (pi_listK K rfl (pv 0)) (blkOk_by (own := [("row", 13)]) (N := N_parted) (by kernel_rfl)) (fun _ _ _ _ _ => (pg_name (i := 13) sc_parted.nd rfl (by first | exact Or.inl rfl | exact Or.inr rfl))) (fun _ _ _ _ _ => pts_nil) (fun _ _ _ _ _ => pe_int))
      (pss_cons (ps_for PassesOwn.never rfl (pi_enumK K rfl (by rfl) T.m_enumerate (pa_cons (pv 2) pa_nil)) (pg_tupK (n := 2) K rfl (by rfl) (pgs_cons (pg_name (i := 4) sc_parted.nd rfl (Or.inl rfl)) (pgs_cons (pg_name (i := 5) sc_parted.nd rfl (Or.inl rfl)) pgs_nil)))
        (pss_one (ps_lock (ps_for PassesOwn.never rfl (pi_keys (pv 5)) (pg_name (i := 6) sc_parted.nd rfl (Or.inl rfl))
            (pss_one (ps_asg (pv 4) (pg_sub (pv 3) (pv 6) set_list)))))))
      (pss_cons (ps_set (i := 7) sc_parted.nd rfl (Or.inl rfl) (pe_call G_ways_back (hr.mono (by decide)) (by rfl) T.g_ways_back T.F_ways_back.kp T.b_ways_back .nil pass0 (pa_cons (pv 0) pa_nil)))
      (pss_cons (ps_set (i := 8) sc_parted.nd rfl (Or.inl rfl) pe_int)
      (pss_cons (ps_while PassesOwn.never (pt_cmpR op_lt (pv 8) (pe_callB (call_lenK K rfl) (by rfl) T.m_len (by decide +kernel) (pa_cons (pv 2) pa_nil)) (nomark _))
        (pss_cons (ps_set (i := 9) sc_parted.nd rfl (Or.inl rfl) (pe_callTy (call_list_dK rfl) (by rfl) T.m_list (by decide +kernel) (pa_cons (pe_ix (ix_listK K rfl) (pv 2) (pv 8) (fun _ _ => rfl)) pa_nil)))
          (pss_cons (ps_for PassesOwn.never rfl (pi_listK K rfl (pv 7)) (pg_name (i := 10) sc_parted.nd rfl (Or.inl rfl))
            (pss_cons (ps_set (i := 11) sc_parted.nd rfl (Or.inl rfl) (pe_call G_hits_of (hr.mono (by decide)) (by rfl) T.g_hits_of T.F_hits_of.kp T.b_hits_of .nil pass0 (pa_cons (pv 10) (pa_cons (pv 9) (pa_cons (pv 3) pa_nil)))))
              (pss_one (ps_lock (ps_for PassesOwn.never rfl (pi_keys (pv 11)) (pg_name (i := 12) sc_parted.nd rfl (Or.inl rfl))
                (pss_one (ps_expr (pe_call G_split_group (hr.mono (by decide)) (by rfl) T.g_split_group T.F_split_group.kp T.b_split_group .nil pass0 (pa_cons (pv 2) (pa_cons (pv 3) (pa_cons (pv 12) (pa_cons (pe_dget (hu_of hr) (pv 11) (pv 12) (fun _ _ => rfl)) pa_nil))))))))))))
          (pss_one (ps_aug (i := 8) sc_parted.nd rfl (Or.inl rfl) pe_int ip_add)))))
      (pss_one (ps_ret (pv 3))))))))), ?_⟩
    have kb := k.big
    have lT : ras.length = n := by
      rw [hT.2.1, k.num]
    -- groups
    refine ⟨.ref e, rfl, e, bs, rfl, he, by omega, fun H1 gr as0 gs0 sm1 fgr fas hG0 pre => ?_⟩
    -- homes
    refine ⟨.ref tb, rfl, tb, rfl, ⟨_, .inl (.inl (sm1 _ _ hT.1))⟩, fun ho nho => ?_⟩
    have fho : H ho = none := sm1.free nho
    have ngh : gr ≠ ho := ne_of_none hG0.1 nho
    refine lc_it (walk_list (K := K) (a := tb) (xs := vr ras)) (fun i H' => H' = upd H1 ho (.lst (vi (List.replicate i 0)))) rfl (fun i H' _ hW => ?_) (fun i x H2 H2' hi hW hY => ?_) (fun H2 hW => ?_)
    · rw [hW]
      exact .inl (.inl (same_new nho _ _ (sm1 _ _ hT.1)))
    · obtain ⟨rfl, hx⟩ := hY
      subst hW
      refine ⟨rfl, lcyes ⟨_, upd_same, ?_, ?_⟩⟩
      · rw [List.length_map, List.length_replicate]
        rw [List.length_map] at hi
        exact Nat.lt_of_le_of_lt (show i ≤ 1000000 by omega) (by decide)
      · rw [upd_upd, List.replicate_succ', ← vi_snoc]
        rfl
    · subst hW
      rw [List.length_map, lT]
      have sm2 : Same H (upd H1 ho (.lst (vi (List.replicate n 0)))) := sm1.trans (same_new nho)
      have hG2 : GrpAt (upd H1 ho (.lst (vi (List.replicate n 0)))) gr as0 gs0 := ⟨same_new nho _ _ hG0.1, hG0.2.1, hG0.2.2.1, fun i a g x y => same_new nho _ _ (hG0.2.2.2 i a g x y)⟩
      have hh2 : (upd H1 ho (.lst (vi (List.replicate n 0)))) ho = some (.lst (vi (List.replicate n 0))) := upd_same
      generalize upd H1 ho (.lst (vi (List.replicate n 0))) = H2 at sm2 hG2 hh2
      -- for number, members in enumerate(groups)
      refine ⟨.ref gr, rfl, gr, _, rfl, .inl (.inl hG2.1), ?_⟩
      refine for_it (walk_enum (K := K) (a := gr) (xs := vr as0)) (fun i σ H' => (∃ hl, H' ho = some (.lst (vi hl)) ∧ hl.length = n ∧ (∀ (s h : Nat) (g : List Nat), h < i → gs0[h]? = some g → s ∈ g → hl[s]? = some h) ∧ Off ho H2 H') ∧ ∃ y4 y5 y6, σ = [some (.ref tb), some (.ref e), some (.ref gr), some (.ref ho), y4, y5, y6, none, none, none, none, none, none, none]) ⟨⟨_, hh2, List.length_replicate, fun s h g z => absurd z (Nat.not_lt_zero h), Off.refl _ _⟩, none, none, none, rfl⟩ (fun i σ H' _ hW => ?_) (fun i x σ H3 H3' hi hW hY => ?_) (fun σ H3 hW => ?_)
      · obtain ⟨⟨hl, _, _, _, of⟩, _⟩ := hW
        exact .inl (.inl (of _ _ ngh hG2.1))
      · obtain ⟨⟨hl, w1, w2, w3, of⟩, y4, y5, y6, rfl⟩ := hW
        obtain ⟨T1, v1, v2, rfl, nT1, rfl, e1, e2⟩ := hY
        cases e1
        rw [List.length_map] at hi
        have hig : i < gs0.length := by
          rw [← hG2.2.2.1]
          exact hi
        have ea : (vr as0)[i]? = some (.ref as0[i]) := by
          rw [List.getElem?_map, List.getElem?_eq_getElem hi]
          rfl
        have e2 := ea.symm.trans e2
        cases e2
        have ha2 := hG2.2.2.2 i _ _ (List.getElem?_eq_getElem hi) (List.getElem?_eq_getElem hig)
        have hg0 : gs0[i]? = some gs0[i] := List.getElem?_eq_getElem hig
        generalize gs0[i] = g at ha2 hg0
        generalize as0[i] = a at ha2
        have nah : a ≠ ho := ne_of ha2 hh2 (by intro z; cases z)
        have prg := pre.same g (List.mem_of_getElem? hg0)
        have T1h : ho ≠ T1 := ne_of_none w1 nT1
        refine ⟨T1, [.int (i : Int), .ref a], rfl, .inl (.inl upd_same), rfl, .int (i : Int), [.ref a], rfl, .ref a, [], rfl, rfl, ?_⟩
        have of3 : Off ho H2 (upd H3 T1 (.tup [.int (i : Int), .ref a])) := of.trans (Off.new nT1)
        have w1' : (upd H3 T1 (.tup [.int (i : Int), .ref a])) ho = some (.lst (vi hl)) := same_new nT1 _ _ w1
        generalize upd H3 T1 (.tup [.int (i : Int), .ref a]) = H4 at of3 w1'
        have ha4 := of3 _ _ nah ha2
        -- for state in members
        refine ⟨a, .dK (dk g), ha4, trivial, fun od => ?_⟩
        refine ⟨.ref a, rfl, a, od, rfl, .inl ⟨dk g, upd_same, ?_⟩⟩
        refine for_it walk_keys (fun j σ H' => (∃ hl, H' ho = some (.lst (vi hl)) ∧ hl.length = n ∧ (∀ (s h : Nat) (g : List Nat), h < i → gs0[h]? = some g → s ∈ g → hl[s]? = some h) ∧ (∀ s ∈ g.take j, hl[s]? = some i) ∧ ∀ b, b ≠ ho → H' b = upd H4 a (.frz od (.dK (dk g))) b) ∧ ∃ y6, σ = [some (.ref tb), some (.ref e), some (.ref gr), some (.ref ho), some (.int (i : Int)), some (.ref a), y6, none, none, none, none, none, none, none]) ⟨⟨hl, by rw [upd_ne (Ne.symm nah)]; exact w1', w2, w3, (fun _ h => nomatch h), fun _ _ => rfl⟩, y6, rfl⟩ (fun j σ H' _ hW => ?_) (fun j x σ H5 H5' hj hW hY => ?_) (fun σ H5 hW => ?_)
        · obtain ⟨⟨hl, _, _, _, _, z⟩, _⟩ := hW
          rw [z a nah, upd_same]
        · obtain ⟨⟨hl, x1, x2, x3, x4, x5⟩, y6, rfl⟩ := hW
          obtain ⟨rfl, kk, v, hkv, rfl⟩ := hY
          obtain ⟨s2, hs2, rfl, rfl⟩ := dk_get hkv
          have hs2m := List.mem_of_getElem? hs2
          have hs2l : s2 < hl.length := by
            have := (prg s2 hs2m).1
            omega
          refine ⟨.int (i : Int), rfl, .ref ho, rfl, .int (s2 : Int), rfl, ho, _, (s2 : Int), s2, rfl, rfl, x1, ixN_nat (by rw [List.length_map]; exact hs2l), ⟨hl.set s2 i, ?_, ?_, fun s h g' lt hg' hm => ?_, fun s hs => ?_, fun b hb => ?_⟩, _, rfl⟩
          · rw [upd_same, vi_set]
          · rw [List.length_set]
            exact x2
          · have : s2 ≠ s := fun z => by
              subst z
              have := pre.disj h i g' g s2 hg' hg0 hm hs2m
              omega
            rw [List.getElem?_set_ne this]
            exact x3 s h g' lt hg' hm
          · rw [take_snoc hs2] at hs
            by_cases z : s2 = s
            · subst z
              rw [List.getElem?_set_self hs2l]
            · rw [List.getElem?_set_ne z]
              rcases List.mem_append.mp hs with y | y
              · exact x4 s y
              · exact absurd (List.mem_singleton.mp y).symm z
          · rw [upd_ne hb]
            exact x5 b hb
        · obtain ⟨⟨hl, x1, x2, x3, x4, x5⟩, y6, rfl⟩ := hW
          have etg : g.take (dk g).length = g := List.take_of_length_le (by rw [List.length_map]; exact Nat.le_refl _)
          rw [etg] at x4
          refine ⟨by rw [x5 a nah, upd_same], ⟨hl, ?_, x2, fun s h g' lt hg' hm => ?_, fun b o hb eb => ?_⟩, _, _, _, rfl⟩
          · rw [upd_ne (Ne.symm nah)]
            exact x1
          · by_cases z : h < i
            · exact x3 s h g' z hg' hm
            · have : h = i := by omega
              subst this
              rw [hg0] at hg'
              cases hg'
              exact x4 s hm
          · by_cases z : b = a
            · subst z
              rw [upd_same]
              rw [ha2] at eb
              exact eb
            · rw [upd_ne z, x5 b hb, upd_ne z]
              exact of3 b o hb eb
      · obtain ⟨⟨hl, w1, w2, w3, of⟩, y4, y5, y6, rfl⟩ := hW
        rw [List.length_map, hG2.2.2.1] at w3
        have pinv : PInv rows bs n L 0 gs0 hl := PInv.start pre hbs w2 fun s h g hg hm => w3 s h g (List.getElem?_eq_some_iff.mp hg).1 hg hm
        have sm3 : Same H H3 := fun b o eb => of b o (ne_of_none eb fho) (sm2 b o eb)
        have hG3 : GrpAt H3 gr as0 gs0 := ⟨of _ _ ngh hG2.1, hG2.2.1, hG2.2.2.1, fun i a g x y => by
          have := hG2.2.2.2 i a g x y
          exact of _ _ (ne_of this hh2 (by intro z; cases z)) this⟩
        -- backs
        refine ⟨.ref tb, rfl, tb, ras, rows, n, L, rfl, hT.same sm3, k, fun H4 bk cs bss sm4 fbk fcs fbs lcs hbk => ?_⟩
        have nB : ∀ b, b = bk ∨ b ∈ cs ∨ b ∈ bss.flatten → b ≠ gr ∧ b ≠ ho := fun b hb => by
          have : H3 b = none := by
            rcases hb with rfl | hb | hb
            · exact fbk
            · exact fcs b hb
            · exact fbs b hb
          exact ⟨Ne.symm (ne_of_none hG3.1 this), Ne.symm (ne_of_none w1 this)⟩
        have hG4 : GrpAt H4 gr as0 gs0 := ⟨sm4 _ _ hG3.1, hG3.2.1, hG3.2.2.1, fun i a g x y => sm4 _ _ (hG3.2.2.2 i a g x y)⟩
        -- while
        refine ⟨fun m σ H' => ∃ (a : Nat) (as : List Addr) (gs : List (List Nat)) (hl : List Nat) (y4 y5 y6 y9 y10 y11 y12 : Option V), m + a = n + 1 ∧ σ = [some (.ref tb), some (.ref e), some (.ref gr), some (.ref ho), y4, y5, y6, some (.ref bk), some (.int (a : Int)), y9, y10, y11, y12, none] ∧ Same H H' ∧ GrpAt H' gr as gs ∧ H' ho = some (.lst (vi hl)) ∧ BK H' bk cs bss n (bkF rows n) ∧ PInv rows bs n L a gs hl ∧ (∀ x ∈ as, H x = none),
          ⟨n + 1, 0, as0, gs0, hl, y4, y5, y6, none, none, none, none, rfl, rfl, sm3.trans sm4, hG4, sm4 _ _ w1, hbk, pinv, fas⟩, fun m σ H5 hW => ?_⟩
        obtain ⟨a, as, gs, hl, y4, y5, y6, y9, y10, y11, y12, em, rfl, sm5, hG5, hh5, hbk5, p5, f5⟩ := hW
        refine ⟨.int (a : Int), rfl, .ref gr, rfl, gr, _, rfl, .inl (.inl (.inl hG5.1)), _, _, rfl, rfl, _, rfl, ite2 (fun z => ?_) (fun z => ?_)⟩
        · have hag : a < gs.length := by
            have := of_decide_eq_true z
            rw [List.length_map, hG5.2.2.1] at this
            omega
          have hags : a < as.length := by
            rw [hG5.2.2.1]
            exact hag
          have hgn := p5.part.many
          refine ⟨fun σ' H' => ∃ (as : List Addr) (gs : List (List Nat)) (hl : List Nat) (y4 y5 y6 y9 y10 y11 y12 : Option V), σ' = [some (.ref tb), some (.ref e), some (.ref gr), some (.ref ho), y4, y5, y6, some (.ref bk), some (.int ((a + 1 : Nat) : Int)), y9, y10, y11, y12, none] ∧ Same H H' ∧ GrpAt H' gr as gs ∧ H' ho = some (.lst (vi hl)) ∧ BK H' bk cs bss n (bkF rows n) ∧ PInv rows bs n L (a + 1) gs hl ∧ (∀ x ∈ as, H x = none), fun σ' H' hN => ?_, ?_⟩
          · obtain ⟨as, gs, hl, y4, y5, y6, y9, y10, y11, y12, r1, r2, r3, r4, r5, r6, r7⟩ := hN
            exact ⟨m - 1, by omega, a + 1, as, gs, hl, y4, y5, y6, y9, y10, y11, y12, by omega, r1, r2, r3, r4, r5, r6, r7⟩
          -- targets
          have va : (vr as)[a]? = some (.ref as[a]) := by
            rw [List.getElem?_map, List.getElem?_eq_getElem hags]
            rfl
          have ha5 := hG5.2.2.2 a _ _ (List.getElem?_eq_getElem hags) (List.getElem?_eq_getElem hag)
          have hga : gs[a]? = some gs[a] := List.getElem?_eq_getElem hag
          generalize gs[a] = g at ha5 hga
          have hgm : ∀ s ∈ g, s < n := fun s hs => by
            have := (List.getElem?_eq_some_iff.mp ((p5.part.mem a g hga s).mp hs)).1
            rw [p5.part.len] at this
            exact this
          have ndg : g.Nodup := p5.part.nd g (List.mem_of_getElem? hga)
          refine ⟨.ref gr, rfl, .int (a : Int), rfl, gr, _, (a : Int), .ref as[a], rfl, rfl, .inl (.inl hG5.1), atI_nat va, as[a], dk g, rfl, ha5, fun tg ntg => ?_⟩
          rw [keys_dk]
          have ftg : H tg = none := sm5.free ntg
          have tgg : tg ≠ gr := Ne.symm (ne_of_none hG5.1 ntg)
          have tgh : tg ≠ ho := Ne.symm (ne_of_none hh5 ntg)
          have linv0 : LInv rows bs n L gs.length hl g 0 gs hl := ⟨p5.part, p5.co, Ref.refl _ _ _, fun s t c _ _ _ lc => absurd lc (Nat.not_lt_zero c), Nat.le_refl _⟩
          -- for back in backs
          refine ⟨.ref bk, rfl, bk, rfl, ⟨_, .inl (.inl (same_new ntg _ _ hbk5.top))⟩, ?_⟩
          refine for_it (walk_list (K := K) (a := bk) (xs := vr cs)) (fun c σ H' => (∃ as gs' hl', Same H H' ∧ GrpAt H' gr as gs' ∧ H' ho = some (.lst (vi hl')) ∧ BK H' bk cs bss n (bkF rows n) ∧ LInv rows bs n L gs.length hl g c gs' hl' ∧ (∀ x ∈ as, H x = none) ∧ H' tg = some (.lst (vi g))) ∧ ∃ y10 y11 y12, σ = [some (.ref tb), some (.ref e), some (.ref gr), some (.ref ho), y4, y5, y6, some (.ref bk), some (.int (a : Int)), some (.ref tg), y10, y11, y12, none]) ⟨⟨as, gs, hl, sm5.trans (same_new ntg), ⟨same_new ntg _ _ hG5.1, hG5.2.1, hG5.2.2.1, fun i a g x y => same_new ntg _ _ (hG5.2.2.2 i a g x y)⟩, same_new ntg _ _ hh5, hbk5.same (same_new ntg), linv0, f5, upd_same⟩, y10, y11, y12, rfl⟩ (fun c σ H' _ hW => ?_) (fun c x σ H6 H6' hc hW hY => ?_) (fun σ H6 hW => ?_)
          · obtain ⟨⟨as, gs', hl', _, _, _, b6, _⟩, _⟩ := hW
            exact .inl (.inl b6.top)
          · obtain ⟨⟨as, gs', hl', sm6, hG6, hh6, hbk6, l6, f6, ht6⟩, y10, y11, y12, rfl⟩ := hW
            obtain ⟨rfl, hx⟩ := hY
            rw [List.length_map] at hc
            have hcL : c < L := by omega
            have ec : (vr cs)[c]? = some (.ref cs[c]) := by
              rw [List.getElem?_map, List.getElem?_eq_getElem hc]
              rfl
            rw [ec] at hx
            cases hx
            obtain ⟨bs', hlol⟩ := hbk6.lol (List.getElem?_eq_getElem hc)
            have hF := flat_mem k hcL hgm
            have ndF := flat_nd (rows := rows) (c := c) ndg hgm
            have lF : (flat ((List.range n).map (bkF rows n c)) g).length ≤ n := by
              have := len_le_of_sub (ys := List.range n) ndF fun x hx => List.mem_range.mpr ((hF x).mp hx).1
              rw [List.length_range] at this
              exact this
            -- hits
            refine ⟨.ref cs[c], rfl, .ref tg, rfl, .ref ho, rfl, cs[c], tg, ho, bs', (List.range n).map (bkF rows n c), g, hl', rfl, hlol, ht6, hh6, fun t ht => by rw [List.length_map, List.length_range]; exact hgm t ht, fun s hs => by rw [l6.part.len]; exact ((hF s).mp hs).1, by omega, fun H7 hd es sm7 fhd ehd ok fes => ?_⟩
            have fhdH : H hd = none := sm6.free fhd
            have hG7 : GrpAt H7 gr as gs' := ⟨sm7 _ _ hG6.1, hG6.2.1, hG6.2.2.1, fun i a g x y => sm7 _ _ (hG6.2.2.2 i a g x y)⟩
            have nE : ∀ e ∈ es, e.2.1 ≠ gr ∧ e.2.1 ≠ ho := fun e he => ⟨Ne.symm (ne_of_none hG6.1 (fes e he)), Ne.symm (ne_of_none hh6 (fes e he))⟩
            have nhd : hd ≠ gr ∧ hd ≠ ho := ⟨Ne.symm (ne_of_none hG6.1 fhd), Ne.symm (ne_of_none hh6 fhd)⟩
            have cl : ∀ s t, s < n → t < n → Eqv rows bs L s t → (s ∈ flat ((List.range n).map (bkF rows n c)) g ↔ t ∈ flat ((List.range n).map (bkF rows n c)) g) := fun s t hs ht ev => by
              rw [hF s, hF t, p5.part.mem a g hga, p5.part.mem a g hga, p5.co _ _ (k.dl_lt hs hcL) (k.dl_lt ht hcL) (ev.step hcL)]
              exact ⟨fun z => ⟨ht, z.2⟩, fun z => ⟨hs, z.2⟩⟩
            -- for home in hits
            refine ⟨hd, .dK (ek es), ehd, trivial, fun od => ?_⟩
            refine ⟨.ref hd, rfl, hd, od, rfl, .inl ⟨ek es, upd_same, ?_⟩⟩
            have up : ∀ b o, b ≠ hd → H7 b = some o → upd H7 hd (.frz od (.dK (ek es))) b = some o := fun b o nb eb => by
              rw [upd_ne nb]
              exact eb
            have lstne : ∀ b xs, H7 b = some (.lst xs) → b ≠ hd := fun b xs eb => ne_of eb ehd (by intro z; cases z)
            have h0 : HInv rows bs n L gs'.length hl' (flat ((List.range n).map (bkF rows n c)) g) es 0 gs' hl' := ⟨l6.part, l6.co, Ref.refl _ _ _, fun s h hs _ => hs, fun s t _ _ _ z => by
              obtain ⟨i, _, lt, _⟩ := z
              exact absurd lt (Nat.not_lt_zero i), Nat.le_refl _⟩
            refine for_it walk_keys (fun j σ H' => (∃ as2 gs2 hl2, Same H H' ∧ GrpAt H' gr as2 gs2 ∧ H' ho = some (.lst (vi hl2)) ∧ BK H' bk cs bss n (bkF rows n) ∧ (∀ x ∈ as2, H x = none) ∧ H' tg = some (.lst (vi g)) ∧ H' hd = some (.frz od (.dK (ek es))) ∧ (∀ e ∈ es, H' e.2.1 = some (.lst (vi e.2.2))) ∧ HInv rows bs n L gs'.length hl' (flat ((List.range n).map (bkF rows n c)) g) es j gs2 hl2) ∧ ∃ y12, σ = [some (.ref tb), some (.ref e), some (.ref gr), some (.ref ho), y4, y5, y6, some (.ref bk), some (.int (a : Int)), some (.ref tg), some (.ref cs[c]), some (.ref hd), y12, none])
              ⟨⟨as, gs', hl', ?_, ⟨?_, hG7.2.1, hG7.2.2.1, fun i x g' hx hg' => ?_⟩, ?_, ?_, f6, ?_, upd_same, fun e' he' => ?_, h0⟩, y12, rfl⟩ (fun j σ H' _ hW => ?_) (fun j x σ H8 H8' hj hW hY => ?_) (fun σ H8 hW => ?_)
            · intro b o eb
              exact up b o (ne_of_none eb fhdH) (sm7 _ _ (sm6 _ _ eb))
            · exact up _ _ (lstne _ _ hG7.1) hG7.1
            · have := hG7.2.2.2 i x g' hx hg'
              refine up _ _ (fun z => ?_) this
              have h1 := f6 x (List.mem_of_getElem? hx)
              have h2 := hG6.2.2.2 i x g' hx hg'
              rw [z, fhd] at h2
              cases h2
            · exact up _ _ (lstne _ _ (sm7 _ _ hh6)) (sm7 _ _ hh6)
            · have hbk7 := hbk6.same sm7
              exact ⟨up _ _ (lstne _ _ hbk7.top) hbk7.top, hbk7.len, fun c' a' bs2 x' y' => by
                obtain ⟨z1, z2⟩ := hbk7.col c' a' bs2 x' y'
                exact ⟨up _ _ (lstne _ _ z1) z1, z2⟩, fun c' t' bs2 b' x' y' => by
                have z1 := hbk7.cell c' t' bs2 b' x' y'
                exact up _ _ (lstne _ _ z1) z1, hbk7.nd⟩
            · exact up _ _ (lstne _ _ (sm7 _ _ ht6)) (sm7 _ _ ht6)
            · exact up _ _ (lstne _ _ (ok.at_ e' he')) (ok.at_ e' he')
            · obtain ⟨⟨as2, gs2, hl2, _, _, _, _, _, _, z, _⟩, _⟩ := hW
              exact z
            · obtain ⟨⟨as2, gs2, hl2, sm8, hG8, hh8, hbk8, f8, ht8, hd8, he8, hi8⟩, y12, rfl⟩ := hW
              obtain ⟨rfl, kk, v, hkv, rfl⟩ := hY
              obtain ⟨en, hen, rfl, rfl⟩ := ek_get hkv
              have henm := List.mem_of_getElem? hen
              have hxe := ok.eq en henm
              have vh : valV (ek es) (Sum.inl (en.1 : Int) : Key) = some (.ref en.2.1) := by
                rw [valV_ek, find_nd ok.nd hen]
                rfl
              have keyne : ∀ (i : Nat) (e' : Ent), i < j → es[i]? = some e' → e'.1 ≠ en.1 := fun i e' hi hi' z => by
                have a1 : (es.map (·.1))[i]? = some e'.1 := by rw [List.getElem?_map, hi']; rfl
                have b1 : (es.map (·.1))[j]? = some e'.1 := by rw [List.getElem?_map, hen, z]; rfl
                have := nd_ix ok.nd a1 b1
                omega
              -- split_group(groups, homes, home, hits[home])
              refine ⟨.ref gr, rfl, .ref ho, rfl, .int (en.1 : Int), rfl, .ref hd, rfl, .int (en.1 : Int), rfl, hd, .ref en.2.1, rfl, .inl ⟨ek es, Sum.inl (en.1 : Int), .inr ⟨od, hd8⟩, rfl, vh.symm⟩, gr, ho, en.2.1, en.1, n, as2, gs2, hl2, en.2.2, rfl, hG8, hh8, he8 en henm, ngh, (nE en henm).1, (nE en henm).2, hi8.part, kb, ?_, ok.ne en henm, fun s hs => ?_, fun H9 as3 gs3 hl3 hG9 hh9 sp off ins => ?_⟩
              · rw [hxe]
                exact ndF.filter _
              · rw [hxe] at hs
                exact hi8.kept s _ (of_decide_eq_true (List.mem_filter.mp hs).2) fun i e' hi hi' => keyne i e' hi hi'
              · have keep : ∀ b o, b ≠ gr → b ≠ ho → H8' b = some o → (∀ g', o ≠ .dK (dk g')) → H9 b = some o := fun b o h1 h2 h3 h4 => off b o h1 h2 (hG8.not h3 h4) h3
                refine ⟨⟨as3, gs3, hl3, fun b o eb => ?_, hG9, hh9, hbk8.off hG8 nB off, fun x hx => ?_, keep _ _ tgg tgh ht8 (by intro g' z; cases z), keep _ _ nhd.1 nhd.2 hd8 (by intro g' z; cases z), fun e' he' => keep _ _ (nE e' he').1 (nE e' he').2 (he8 e' he') (by intro g' z; cases z), hi8.step hen ok.nd hxe cl sp⟩, _, rfl⟩
                · refine off b o (ne_of_none eb fgr) (ne_of_none eb fho) (fun z => ?_) (sm8 _ _ eb)
                  rw [f8 b z] at eb
                  cases eb
                · rcases ins x hx with y | y
                  · exact f8 x y
                  · exact sm8.free y
            · obtain ⟨⟨as2, gs2, hl2, sm8, hG8, hh8, hbk8, f8, ht8, hd8, he8, hi8⟩, y12, rfl⟩ := hW
              rw [List.length_map] at hi8
              have l7 := HInv.last l6 hi8 hF ok.all
              have up2 : ∀ b o, b ≠ hd → H8 b = some o → upd H8 hd (.dK (ek es)) b = some o := fun b o nb eb => by
                rw [upd_ne nb]
                exact eb
              have lst2 : ∀ b xs, H8 b = some (.lst xs) → b ≠ hd := fun b xs eb => ne_of eb hd8 (by intro z; cases z)
              refine ⟨hd8, ⟨as2, gs2, hl2, fun b o eb => up2 b o (ne_of_none eb fhdH) (sm8 _ _ eb), ⟨up2 _ _ (lst2 _ _ hG8.1) hG8.1, hG8.2.1, hG8.2.2.1, fun i x g' hx hg' => ?_⟩, up2 _ _ (lst2 _ _ hh8) hh8, ?_, l7, f8, up2 _ _ (lst2 _ _ ht8) ht8⟩, _, _, _, rfl⟩
              · have := hG8.2.2.2 i x g' hx hg'
                exact up2 _ _ (ne_of this hd8 (by intro z; cases z)) this
              · exact ⟨up2 _ _ (lst2 _ _ hbk8.top) hbk8.top, hbk8.len, fun c' a' bs2 x' y' => by
                  obtain ⟨z1, z2⟩ := hbk8.col c' a' bs2 x' y'
                  exact ⟨up2 _ _ (lst2 _ _ z1) z1, z2⟩, fun c' t' bs2 b' x' y' => by
                  have z1 := hbk8.cell c' t' bs2 b' x' y'
                  exact up2 _ _ (lst2 _ _ z1) z1, hbk8.nd⟩
          · obtain ⟨⟨as, gs', hl', sm6, hG6, hh6, hbk6, l6, f6, ht6⟩, y10, y11, y12, rfl⟩ := hW
            rw [List.length_map, lcs] at l6
            refine ⟨_, rfl, _, _, rfl, rfl, as, gs', hl', y4, y5, y6, _, y10, y11, y12, rfl, sm6, hG6, hh6, hbk6, LInv.last p5 hga l6, f6⟩
        · have hag : gs.length ≤ a := by
            have : ¬ ((a : Int) < ((vr as).length : Nat)) := fun y => z (decide_eq_true y)
            rw [List.length_map, hG5.2.2.1] at this
            omega
          exact ⟨.ref ho, rfl, q H5 ho hl sm5 fho hh5 p5.part.len (p5.last k hag)⟩
end
end LH

namespace LH
open PySem PySem.Spec PyProof.Rows L2
/-! ### merged: one state for each home -/
def isHead (hl : List Nat) (s : Nat) : Bool := (List.range s).all fun t => decide (hl[t]? ≠ hl[s]?)
def headsOf (hl : List Nat) (i : Nat) : List Nat := (List.range i).filter (isHead hl)
/-- the number of a state's home: how many heads stand ahead of its own -/
def numOf (hl : List Nat) (s : Nat) : Nat := (headsOf hl hl.length).findIdx fun h => decide (hl[h]? = hl[s]?)
theorem isHead_iff {hl : List Nat} {s : Nat} : isHead hl s = true ↔ ∀ t, t < s → hl[t]? ≠ hl[s]? := by
  unfold isHead
  rw [List.all_eq_true]
  exact ⟨fun h t ht => of_decide_eq_true (h t (List.mem_range.mpr ht)), fun h t ht => decide_eq_true (h t (List.mem_range.mp ht))⟩
theorem heads_mem {hl : List Nat} {i s : Nat} : s ∈ headsOf hl i ↔ s < i ∧ ∀ t, t < s → hl[t]? ≠ hl[s]? := by
  unfold headsOf
  rw [List.mem_filter, List.mem_range, isHead_iff]
theorem heads_succ (hl : List Nat) (i : Nat) : headsOf hl (i + 1) = if isHead hl i = true then headsOf hl i ++ [i] else headsOf hl i := by
  unfold headsOf
  rw [List.range_succ, List.filter_append]
  by_cases e : isHead hl i = true
  · rw [if_pos e]
    simp [e]
  · rw [if_neg e]
    simp [e]
theorem heads_rise (hl : List Nat) (i : Nat) : (headsOf hl i).Pairwise (· < ·) := List.Pairwise.filter _ List.pairwise_lt_range
/-- every state has its head -/
theorem head_ex (hl : List Nat) : ∀ (s i : Nat), s < i → ∃ h ∈ headsOf hl i, h ≤ s ∧ hl[h]? = hl[s]? := by
  intro s
  induction s using Nat.strongRecOn with
  | ind s ih =>
    intro i hi
    by_cases e : ∀ t, t < s → hl[t]? ≠ hl[s]?
    · exact ⟨s, heads_mem.mpr ⟨hi, e⟩, Nat.le_refl _, rfl⟩
    · obtain ⟨t, ht, q⟩ : ∃ t, t < s ∧ hl[t]? = hl[s]? := by
        by_cases z : ∃ t, t < s ∧ hl[t]? = hl[s]?
        · exact z
        · exact absurd (fun t ht q => z ⟨t, ht, q⟩) e
      obtain ⟨h, hh, le, q'⟩ := ih t ht i (by omega)
      exact ⟨h, hh, by omega, q'.trans q⟩
theorem head_uniq {hl : List Nat} {i h h' : Nat} (a : h ∈ headsOf hl i) (b : h' ∈ headsOf hl i) (e : hl[h]? = hl[h']?) : h = h' := by
  obtain ⟨_, a2⟩ := heads_mem.mp a
  obtain ⟨_, b2⟩ := heads_mem.mp b
  rcases Nat.lt_trichotomy h h' with z | z | z
  · exact absurd e (b2 h z)
  · exact z
  · exact absurd e.symm (a2 h' z)
theorem num_spec {hl : List Nat} {s : Nat} (hs : s < hl.length) : ∃ h, (headsOf hl hl.length)[numOf hl s]? = some h ∧ h ≤ s ∧ hl[h]? = hl[s]? := by
  obtain ⟨h, hh, le, q⟩ := head_ex hl s hl.length hs
  have hex : ∃ x ∈ headsOf hl hl.length, decide (hl[x]? = hl[s]?) = true := ⟨h, hh, decide_eq_true q⟩
  have hlt := List.findIdx_lt_length_of_exists hex
  have hp := List.findIdx_getElem (w := hlt)
  have hp := of_decide_eq_true hp
  refine ⟨_, List.getElem?_eq_getElem hlt, ?_, hp⟩
  have := head_uniq (List.getElem_mem hlt) hh (hp.trans q.symm)
  rw [this]
  exact le
theorem num_of_head {hl : List Nat} {k h : Nat} (hk : (headsOf hl hl.length)[k]? = some h) : numOf hl h = k := by
  have hm := List.mem_of_getElem? hk
  obtain ⟨h', e1, _, e2⟩ := num_spec (heads_mem.mp hm).1
  have := head_uniq (List.mem_of_getElem? e1) hm e2
  subst this
  have nd : (headsOf hl hl.length).Nodup := (heads_rise hl hl.length).imp fun h => Nat.ne_of_lt h
  exact nd_ix nd e1 hk
theorem num_eq {hl : List Nat} {s t : Nat} (hs : s < hl.length) (ht : t < hl.length) : numOf hl s = numOf hl t ↔ hl[s]? = hl[t]? := by
  constructor
  · intro e
    obtain ⟨h, a1, _, a2⟩ := num_spec hs
    obtain ⟨h', b1, _, b2⟩ := num_spec ht
    rw [e] at a1
    rw [a1] at b1
    cases b1
    exact a2.symm.trans b2
  · intro e
    unfold numOf
    rw [e]
def mRows (rows : List (List Nat)) (hl : List Nat) : List (List Nat) := (headsOf hl hl.length).map fun h => (rows.getD h []).map (numOf hl)
def mEnds (bs : List Bool) (hl : List Nat) : List Nat := (List.range (headsOf hl hl.length).length).filter fun k => decide (bs[(headsOf hl hl.length).getD k 0]? = some true)
abbrev nk (hs hl : List Nat) : List (Key × V) := hs.zipIdx.map fun (p : Nat × Nat) => (Sum.inl ((hl.getD p.1 0 : Nat) : Int), V.int (p.2 : Int))
theorem nk_snoc (hs hl : List Nat) (s : Nat) : nk (hs ++ [s]) hl = nk hs hl ++ [(Sum.inl ((hl.getD s 0 : Nat) : Int), V.int (hs.length : Int))] := by
  show List.map _ (hs ++ [s]).zipIdx = _
  rw [List.zipIdx_append, List.map_append]
  simp
theorem valV_nkk {hl : List Nat} (x : Nat) : ∀ (hs : List Nat) (k : Nat), valV ((hs.zipIdx k).map fun (p : Nat × Nat) => ((Sum.inl ((hl.getD p.1 0 : Nat) : Int) : Key), V.int (p.2 : Int))) (Sum.inl (x : Int) : Key) = if (hs.any fun h => decide (hl.getD h 0 = x)) = true then some (.int ((k + hs.findIdx fun h => decide (hl.getD h 0 = x) : Nat) : Int)) else none
  | [], _ => rfl
  | h :: r, k => by
    rw [List.zipIdx_cons, List.map_cons, List.any_cons, List.findIdx_cons]
    by_cases q : hl.getD h 0 = x
    · rw [valV_pos (by show (Sum.inl ((hl.getD h 0 : Nat) : Int) : Key) = _; rw [q])]
      simp only [q, decide_true, Bool.true_or, if_true, cond_true, Nat.add_zero]
    · have ne : ¬ (((h, k) : Nat × Nat) |> fun p => ((Sum.inl ((hl.getD p.1 0 : Nat) : Int) : Key), V.int (p.2 : Int))).1 = (Sum.inl (x : Int) : Key) := fun z => q (by
        have z1 : ((hl.getD h 0 : Nat) : Int) = (x : Int) := Sum.inl.inj z
        exact Int.ofNat.inj z1)
      rw [valV_neg ne, valV_nkk x r (k + 1)]
      simp only [q, decide_false, Bool.false_or, cond_false]
      by_cases e : (r.any fun h => decide (hl.getD h 0 = x)) = true
      · rw [if_pos e, if_pos e]
        congr 2
        omega
      · rw [if_neg e, if_neg e]
theorem valV_nk {hl : List Nat} (x : Nat) (hs : List Nat) : valV (nk hs hl) (Sum.inl (x : Int) : Key) = if (hs.any fun h => decide (hl.getD h 0 = x)) = true then some (.int ((hs.findIdx fun h => decide (hl.getD h 0 = x) : Nat) : Int)) else none := by
  have := valV_nkk (hl := hl) x hs 0
  rw [Nat.zero_add] at this
  exact this
end LH

namespace LH
open PySem PySem.Spec PyProof.Rows L2
theorem findIdx_congr' {α : Type} {p q : α → Bool} : ∀ {xs : List α}, (∀ x ∈ xs, p x = q x) → xs.findIdx p = xs.findIdx q
  | [], _ => rfl
  | x :: r, h => by
    rw [List.findIdx_cons, List.findIdx_cons, h x (List.mem_cons_self ..), findIdx_congr' fun y hy => h y (List.mem_cons_of_mem _ hy)]
theorem getD_iff {hl : List Nat} {h x : Nat} (hh : h < hl.length) : hl.getD h 0 = x ↔ hl[h]? = some x := by
  rw [List.getD_eq_getElem?_getD, List.getElem?_eq_getElem hh]
  simp
theorem heads_any {hl : List Nat} {i x : Nat} (hi : hl[i]? = some x) : ((headsOf hl i).any fun h => decide (hl.getD h 0 = x)) = !isHead hl i := by
  have hil := (List.getElem?_eq_some_iff.mp hi).1
  rw [Bool.eq_iff_iff, List.any_eq_true, Bool.not_eq_true', Bool.eq_false_iff]
  constructor
  · rintro ⟨h, hm, hd⟩ z
    have hm' := (heads_mem.mp hm).1
    exact isHead_iff.mp z h hm' (by rw [(getD_iff (by omega)).mp (of_decide_eq_true hd), hi])
  · intro z
    obtain ⟨t, ht, q⟩ : ∃ t, t < i ∧ hl[t]? = hl[i]? := by
      by_cases y : ∃ t, t < i ∧ hl[t]? = hl[i]?
      · exact y
      · exact absurd (isHead_iff.mpr fun t ht q => y ⟨t, ht, q⟩) z
    obtain ⟨h, hm, le, q'⟩ := head_ex hl t i ht
    refine ⟨h, hm, decide_eq_true ((getD_iff ?_).mpr ?_)⟩
    · have := (heads_mem.mp hm).1
      omega
    · rw [q', q, hi]
theorem num_find {hl : List Nat} {t x : Nat} (ht : hl[t]? = some x) : valV (nk (headsOf hl hl.length) hl) (Sum.inl (x : Int) : Key) = some (.int (numOf hl t : Nat)) := by
  have htl := (List.getElem?_eq_some_iff.mp ht).1
  have congr_ : ∀ h ∈ headsOf hl hl.length, decide (hl.getD h 0 = x) = decide (hl[h]? = hl[t]?) := fun h hm => by
    rw [ht]
    have := (heads_mem.mp hm).1
    rw [Bool.eq_iff_iff, decide_eq_true_iff, decide_eq_true_iff, getD_iff this]
  obtain ⟨h, hm, _, q⟩ := head_ex hl t hl.length htl
  rw [valV_nk, if_pos]
  · rw [findIdx_congr' congr_]
    rfl
  · exact List.any_eq_true.mpr ⟨h, hm, by rw [congr_ h hm]; exact decide_eq_true q⟩
theorem heads_len (hl : List Nat) (i : Nat) : (headsOf hl i).length ≤ i := by
  unfold headsOf
  refine Nat.le_trans (List.length_filter_le _ _) ?_
  rw [List.length_range]
  exact Nat.le_refl _
theorem nk_len (hs hl : List Nat) : (nk hs hl).length = hs.length := by
  show (List.map _ _).length = _
  rw [List.length_map, List.length_zipIdx]
section
variable {P : Program} {w : World} {K : PySem.W.Frag} {mg : Str → Option Value} {base : Heap}
def sp_merged : Sp := fun vs H Q _ => ∃ (z : Str) (tb e ho : Addr) (ras : List Addr) (rows : List (List Nat)) (bs : List Bool) (hl : List Nat) (n L : Nat), vs = [.str z, .ref tb, .ref e, .ref ho] ∧ LolAt H tb ras rows ∧ TabOk n L rows ∧ H e = some (.lst (bs.map V.bl)) ∧ bs.length = n ∧ H ho = some (.lst (vi hl)) ∧ hl.length = n ∧
  ∀ H' p, Same H H' → MachAt H' p ⟨z, mRows rows hl, mEnds bs hl⟩ → Q (.ref p) H'
theorem ok_merged (T : TX K mg) : FnOk P w K mg base CX0 1 T.a_merged T.fd_merged ["letters", "table", "ended", "homes"] sp_merged := by
  refine T.F_merged.ok sc_merged (fun vs H Q E h => ?_) (fun cdv A outer s H vs Q E hr h => ?_)
  · obtain ⟨z, tb, e, ho, ras, rows, bs, hl, n, L, rfl, _⟩ := h
    rfl
  · obtain ⟨z, tb, e, ho, ras, rows, bs, hl, n, L, rfl, hT, k, he, hbs, hho, hln, q⟩ := h
    refine ⟨_, (pss_cons (ps_set (i := 4) sc_merged.nd rfl (Or.inr rfl) pe_dnewK)
      (pss_cons (ps_set (i := 5) sc_merged.nd rfl (Or.inl rfl) (pe_lst pa_nil))
      (pss_cons (ps_for PassesOwn.never rfl (pi_enumK K rfl (by rfl) T.m_enumerate (pa_cons (pv 3) pa_nil)) (pg_tupK (n := 2) K rfl (by rfl) (pgs_cons (pg_name (i := 6) sc_merged.nd rfl (Or.inl rfl)) (pgs_cons (pg_name (i := 7) sc_merged.nd rfl (Or.inl rfl)) pgs_nil)))
        (pss_one (ps_if (pt_cmp (pc_dnotin (hu_of hr) (pv 7) (pv 4)))
            (pss_cons (ps_dput (hu_of hr) (pv 4) (pv 7) (pe_callB (call_lenK K rfl) (by rfl) T.m_len (by decide +kernel) (pa_cons (pv 5) pa_nil)) rfl)
              (pss_one (ps_expr (pe_bmK K rfl PySem.F.plainAttrs_list PySem.F.slot_list_append PySem.F.type_list_append mt_append (pv 5) (pa_cons (pv 6) pa_nil)))))
            pss_nil)))
      (pss_cons (ps_setLc (i := 8) (own := [("head", 10)]) (g := gName 10) (tt := tYes) (by rfl) sc_merged.nd rfl rfl (sw_true rfl rfl rfl (by decide +kernel)) (pi_listK K rfl (pv 5)) (blkOk_by (own := [("head", 10)]) (N := N_merged) (by kernel_rfl)) (fun _ _ _ _ _ => (pg_name (i := 10) sc_merged.nd rfl (by first | exact Or.inl rfl | exact Or.inr rfl))) (fun _ _ _ _ _ => pts_nil) (fun _ _ _ _ _ => (pe_callTy (call_tupleK K rfl) (by rfl) T.m_tuple (by decide +kernel) (pa_cons (pe_lc (own := [("target", 11)]) (g := gName 11) (tt := tYes) (by rfl) sc_merged.nd (pi_listK K rfl (pe_ix (ix_listK K rfl) (pv 1) (pv 10) (fun _ _ => rfl))) (blkOk_by (own := [("target", 11)]) (N := N_merged) (by kernel_rfl)) (fun _ _ _ _ _ => (pg_name (i := 11) sc_merged.nd rfl (by first | exact Or.inl rfl | exact Or.inr rfl))) (fun _ _ _ _ _ => pts_nil) (fun _ _ _ _ _ => (pe_dget (hu_of hr) (pv 4) (pe_ix (ix_listK K rfl) (pv 3) (pv 11) (fun _ _ => rfl)) (fun _ _ => rfl)))) pa_nil))))
      (pss_cons (ps_setLc (i := 9) (own := [("number", 12), ("head", 10)]) (by rfl) sc_merged.nd rfl rfl (sw_true rfl rfl rfl (by decide +kernel)) (pi_enumK K rfl (by rfl) T.m_enumerate (pa_cons (pv 5) pa_nil)) (blkOk_by (own := [("number", 12), ("head", 10)]) (N := N_merged) (by kernel_rfl)) (fun _ _ _ _ _ => (pg_tupK (n := 2) K rfl (by rfl) (pgs_cons (pg_name (i := 12) sc_merged.nd rfl (by first | exact Or.inl rfl | exact Or.inr rfl)) (pgs_cons (pg_name (i := 10) sc_merged.nd rfl (by first | exact Or.inl rfl | exact Or.inr rfl)) pgs_nil)))) (fun _ _ _ _ _ => (pts_one (pt_val (pe_ix (ix_listK K rfl) (pv 2) (pv 10) (fun _ _ => rfl))))) (fun _ _ _ _ _ => (pv 12)))
      (pss_one (ps_ret (pe_tup (pa_cons (pv 0) (pa_cons (pe_callTy (call_tupleK K rfl) (by rfl) T.m_tuple (by decide +kernel) (pa_cons (pv 8) pa_nil)) (pa_cons (pe_callTy (call_tupleK K rfl) (by rfl) T.m_tuple (by decide +kernel) (pa_cons (pv 9) pa_nil)) pa_nil))))))))))), ?_⟩
    have kb := k.big
    have sl : ∀ m, m ≤ 1000000 → m < sizeLine := fun m hm => Nat.lt_of_le_of_lt hm (by decide)
    -- numbers, heads
    refine fun nm nnm => ⟨by show 0 ≤ sizeLine; decide, fun hd nhd => ?_⟩
    have dnh : nm ≠ hd := ne_of_none upd_same nhd
    have fhd : H hd = none := by
      rw [upd_ne (Ne.symm dnh)] at nhd
      exact nhd
    have sm0 : Same H (upd (upd H nm (.dK [])) hd (.lst [])) := (same_new nnm).trans (same_new nhd)
    refine ⟨.ref ho, rfl, ho, _, rfl, .inl (.inl (sm0 _ _ hho)), ?_⟩
    refine for_it (walk_enum (K := K) (a := ho) (xs := vi hl)) (fun i σ H' => (Same H H' ∧ H' nm = some (.dK (nk (headsOf hl i) hl)) ∧ H' hd = some (.lst (vi (headsOf hl i)))) ∧ ∃ y6 y7, σ = [some (.str z), some (.ref tb), some (.ref e), some (.ref ho), some (.ref nm), some (.ref hd), y6, y7, none, none, none, none, none]) ⟨⟨sm0, by rw [upd_ne dnh, upd_same]; rfl, upd_same⟩, none, none, rfl⟩ (fun i σ H' _ hW => .inl (.inl (hW.1.1 _ _ hho))) (fun i x σ H1 H1' hi hW hY => ?_) (fun σ H1 hW => ?_)
    · obtain ⟨⟨sm, h1, h2⟩, y6, y7, rfl⟩ := hW
      obtain ⟨T1, v1, v2, rfl, nT1, rfl, e1, e2⟩ := hY
      cases e1
      obtain ⟨u, hu, rfl⟩ := int_at e2
      rw [List.length_map] at hi
      refine ⟨T1, [.int (i : Int), .int (u : Int)], rfl, .inl (.inl upd_same), rfl, .int (i : Int), [.int (u : Int)], rfl, .int (u : Int), [], rfl, rfl, ?_⟩
      have sm1 : Same H (upd H1 T1 (.tup [.int (i : Int), .int (u : Int)])) := sm.trans (same_new nT1)
      have g1 := same_new (o := .tup [.int (i : Int), .int (u : Int)]) nT1 _ _ h1
      have g2 := same_new (o := .tup [.int (i : Int), .int (u : Int)]) nT1 _ _ h2
      generalize upd H1 T1 (.tup [.int (i : Int), .int (u : Int)]) = H2 at sm1 g1 g2
      have hlh := heads_len hl i
      refine ⟨.int (u : Int), rfl, .ref nm, rfl, nm, _, rfl, DGet.k (k := Sum.inl (u : Int)) g1, _, rfl, ?_⟩
      rw [valV_nk, heads_any hu]
      cases eh : isHead hl i with
      | true =>
        rw [Bool.not_true, if_neg Bool.false_ne_true]
        refine iteT ?_
        have ep : putK (nk (headsOf hl i) hl) (Sum.inl (u : Int) : Key) (V.int ((headsOf hl i).length : Int)) = nk (headsOf hl (i + 1)) hl := by
          unfold putK
          rw [valV_any, valV_nk, heads_any hu, eh, Bool.not_true, if_neg Bool.false_ne_true, if_neg (by decide), heads_succ, if_pos eh, nk_snoc]
          rw [(getD_iff (by omega)).mpr hu]
        refine ⟨.ref hd, rfl, hd, _, rfl, .inl (.inl (.inl g2)), .ref nm, rfl, .int (u : Int), rfl, nm, _, rfl, DPut.k (k := Sum.inl (u : Int)) g1 (by rw [nk_len]; exact sl _ (by omega)), ?_⟩
        have g2' : (upd H2 nm (.dK (putK (nk (headsOf hl i) hl) (Sum.inl (u : Int) : Key) (V.int ((vi (headsOf hl i)).length : Int))))) hd = some (.lst (vi (headsOf hl i))) := by
          rw [upd_ne (Ne.symm dnh)]
          exact g2
        refine ⟨.ref hd, rfl, .inl ⟨rfl, _, .inl (.inl g2')⟩, .int (i : Int), rfl, hd, _, _, rfl, rfl, g2', by rw [List.length_map]; exact sl _ (by omega), ⟨?_, ?_, ?_⟩, _, _, rfl⟩
        · intro b o eb
          rw [upd_ne (ne_of_none eb fhd), upd_ne (ne_of_none eb nnm)]
          exact sm1 _ _ eb
        · rw [upd_ne dnh, upd_same, List.length_map, ep]
        · rw [upd_same, vi_snoc, heads_succ, if_pos eh]
      | false =>
        rw [Bool.not_false, if_pos rfl]
        refine iteF ?_
        refine ⟨⟨sm1, ?_, ?_⟩, _, _, rfl⟩
        · rw [heads_succ, if_neg (by rw [eh]; decide)]
          exact g1
        · rw [heads_succ, if_neg (by rw [eh]; decide)]
          exact g2
    · obtain ⟨⟨sm, h1, h2⟩, y6, y7, rfl⟩ := hW
      rw [List.length_map] at h1 h2
      have hlh := heads_len hl hl.length
      -- rows
      refine ⟨.ref hd, rfl, hd, rfl, ⟨_, .inl (.inl h2)⟩, fun D nD => ?_⟩
      have fD : H D = none := sm.free nD
      refine lc_it (walk_list (K := K) (a := hd) (xs := vi (headsOf hl hl.length))) (fun i H' => ∃ as, Same H1 H' ∧ H' D = some (.lst (vr as)) ∧ RowsAt H' as ((mRows rows hl).take i)) ⟨[], same_new nD, upd_same, ⟨rfl, fun i a row x => by simp at x⟩⟩ (fun i H' _ hW => ?_) (fun i x H2 H2' hi hW hY => ?_) (fun H2 hW => ?_)
      · obtain ⟨as, s2, _⟩ := hW
        exact .inl (.inl (s2 _ _ h2))
      · obtain ⟨as, s2, eD, ra⟩ := hW
        obtain ⟨rfl, hx⟩ := hY
        obtain ⟨h, hh, rfl⟩ := int_at hx
        rw [List.length_map] at hi
        have hm := List.mem_of_getElem? hh
        have hhn : h < n := by
          have := (heads_mem.mp hm).1
          omega
        obtain ⟨r, er, eg, lr, lt⟩ := k.at_ hhn
        obtain ⟨b, hb, hrow⟩ := hT.get (t := h) (by rw [k.num]; exact hhn)
        rw [eg] at hrow
        have smH : Same H H2' := sm.trans s2
        have emr : (mRows rows hl)[i]? = some (r.map (numOf hl)) := by
          unfold mRows
          rw [List.getElem?_map, hh]
          show some ((rows.getD h []).map (numOf hl)) = _
          rw [eg]
        refine ⟨rfl, lcyes ?_⟩
        refine ⟨.ref tb, rfl, .int (h : Int), rfl, tb, _, (h : Int), .ref b, rfl, rfl, .inl (.inl (smH _ _ hT.1)), atI_nat hb, b, rfl, ⟨_, .inl (.inl (smH _ _ hrow))⟩, fun D2 n2 => ?_⟩
        have dd : D ≠ D2 := ne_of_none eD n2
        refine lc_it (walk_list (K := K) (a := b) (xs := vi r)) (fun j H' => Same H2' H' ∧ H' D2 = some (.lst (vi ((r.map (numOf hl)).take j)))) ⟨same_new n2, upd_same⟩ (fun j H' _ hW => .inl (.inl (hW.1 _ _ (smH _ _ hrow)))) (fun j x H3 H3' hj hW hY => ?_) (fun H3 hW => ?_)
        · obtain ⟨s3, e3⟩ := hW
          obtain ⟨rfl, hx3⟩ := hY
          obtain ⟨t, ht, rfl⟩ := int_at hx3
          rw [List.length_map] at hj
          have htn : t < hl.length := by
            have := lt t (List.mem_of_getElem? ht)
            omega
          have hlt : hl[t]? = some hl[t] := List.getElem?_eq_getElem htn
          have hvt : (vi hl)[t]? = some (.int (hl[t] : Nat)) := by
            rw [List.getElem?_map, hlt]
            rfl
          refine ⟨rfl, lcyes ?_⟩
          have gn := s3 _ _ (s2 _ _ h1)
          refine ⟨.ref nm, rfl, .ref ho, rfl, .int (t : Int), rfl, ho, _, (t : Int), .int (hl[t] : Nat), rfl, rfl, .inl (.inl (s3 _ _ (smH _ _ hho))), atI_nat hvt, nm, .int (numOf hl t : Nat), rfl, ?_, _, e3, ?_, ?_, ?_⟩
          · have := DGet.k (k := Sum.inl (hl[t] : Int)) gn
            rw [num_find hlt] at this
            exact this
          · rw [List.length_map, List.length_take, List.length_map]
            have := k.l5
            exact sl _ (by omega)
          · intro b' o eb
            rw [upd_ne (ne_of_none eb n2)]
            exact s3 _ _ eb
          · rw [upd_same, vi_snoc]
            have e4 : (r.map (numOf hl))[j]? = some (numOf hl t) := by
              rw [List.getElem?_map, ht]
              rfl
            rw [take_snoc e4]
        · obtain ⟨s3, e3⟩ := hW
          have et : (r.map (numOf hl)).take (vi r).length = r.map (numOf hl) := List.take_of_length_le (by rw [List.length_map, List.length_map]; exact Nat.le_refl _)
          rw [et] at e3
          refine ⟨D2, _, rfl, .inl ⟨.inl (.inl e3), fun p np => ?_⟩⟩
          have eD3 := s3 _ _ eD
          have dp : D ≠ p := ne_of_none eD3 np
          refine ⟨vr as, by rw [upd_ne dp]; exact eD3, ?_, as ++ [p], ?_, ?_, ?_⟩
          · rw [List.length_map, ra.1, List.length_take]
            unfold mRows
            rw [List.length_map]
            exact sl _ (by omega)
          · intro b' o eb
            rw [upd_ne (ne_of_none eb nD), upd_ne (ne_of_none (s3 _ _ (s2 _ _ eb)) np)]
            exact s3 _ _ (s2 _ _ eb)
          · rw [upd_same, vr_snoc]
          · rw [take_snoc emr]
            have ra3 := (ra.mono (Tups.same s3)).mono (Tups.new (o := .tup (vi (r.map (numOf hl)))) np)
            exact (ra3.snoc upd_same).mono (Tups.lst (xs := vr as) (by rw [upd_ne dp]; exact eD3))
      · obtain ⟨as, s2, eD, ra⟩ := hW
        have lmr : (mRows rows hl).length = (headsOf hl hl.length).length := by
          unfold mRows
          rw [List.length_map]
        have et : (mRows rows hl).take (vi (headsOf hl hl.length)).length = mRows rows hl := List.take_of_length_le (by rw [List.length_map, lmr]; exact Nat.le_refl _)
        rw [et] at ra
        have smH : Same H H2 := sm.trans s2
        have hd2 := s2 _ _ h2
        -- ends
        refine ⟨.ref hd, rfl, hd, _, rfl, .inl (.inl hd2), fun D3 n3 => ?_⟩
        refine lc_it (walk_enum (K := K) (a := hd) (xs := vi (headsOf hl hl.length))) (fun i H' => Same H2 H' ∧ H' D3 = some (.lst (vi ((List.range i).filter fun k => decide (bs[(headsOf hl hl.length).getD k 0]? = some true))))) ⟨same_new n3, upd_same⟩ (fun i H' _ hW => .inl (.inl (hW.1 _ _ hd2))) (fun i x H3 H3' hi hW hY => ?_) (fun H3 hW => ?_)
        · obtain ⟨s3, e3⟩ := hW
          obtain ⟨T1, v1, v2, rfl, nT1, rfl, e1, e2⟩ := hY
          cases e1
          obtain ⟨h, hh, rfl⟩ := int_at e2
          rw [List.length_map] at hi
          have hhn : h < bs.length := by
            have := (heads_mem.mp (List.mem_of_getElem? hh)).1
            omega
          have hgd : (headsOf hl hl.length).getD i 0 = h := by
            rw [List.getD_eq_getElem?_getD, hh]
            rfl
          refine ⟨T1, [.int (i : Int), .int (h : Int)], rfl, .inl (.inl upd_same), rfl, .int (i : Int), [.int (h : Int)], rfl, .int (h : Int), [], rfl, rfl, rfl, ?_⟩
          have s4 : Same H2 (upd H3 T1 (.tup [.int (i : Int), .int (h : Int)])) := s3.trans (same_new nT1)
          have e4 := same_new (o := .tup [.int (i : Int), .int (h : Int)]) nT1 _ _ e3
          generalize upd H3 T1 (.tup [.int (i : Int), .int (h : Int)]) = H4 at s4 e4
          have hb : bs[h]? = some bs[h] := List.getElem?_eq_getElem hhn
          generalize bs[h] = b at hb
          have hvb : (bs.map V.bl)[h]? = some (.bl b) := by
            rw [List.getElem?_map, hb]
            rfl
          refine ⟨.ref e, rfl, .int (h : Int), rfl, e, _, (h : Int), .bl b, rfl, rfl, .inl (.inl (s4 _ _ (smH _ _ he))), atI_nat hvb, b, rfl, ?_⟩
          cases b with
          | true =>
            refine iteT ?_
            refine ⟨.int (i : Int), rfl, _, e4, ?_, ?_, ?_⟩
            · rw [List.length_map]
              refine Nat.lt_of_le_of_lt (List.length_filter_le _ _) ?_
              rw [List.length_range]
              exact sl _ (by omega)
            · intro b' o eb
              rw [upd_ne (ne_of_none eb n3)]
              exact s4 _ _ eb
            · rw [upd_same, vi_snoc, List.range_succ, List.filter_append]
              have : ([i].filter fun k => decide (bs[(headsOf hl hl.length).getD k 0]? = some true)) = [i] := by
                rw [List.filter_cons, hgd, hb]
                rfl
              rw [this]
          | false =>
            refine iteF ?_
            refine ⟨s4, ?_⟩
            rw [List.range_succ, List.filter_append]
            have : ([i].filter fun k => decide (bs[(headsOf hl hl.length).getD k 0]? = some true)) = [] := by
              rw [List.filter_cons, hgd, hb]
              rfl
            rw [this, List.append_nil]
            exact e4
        · obtain ⟨s3, e3⟩ := hW
          rw [List.length_map] at e3
          -- return
          refine ⟨.str z, rfl, .ref D, rfl, D, _, rfl, .inl ⟨.inl (.inl (s3 _ _ eD)), fun p4 n4 => ?_⟩⟩
          have e3' := same_new (o := .tup (vr as)) n4 _ _ e3
          refine ⟨.ref D3, rfl, D3, _, rfl, .inl ⟨.inl (.inl e3'), fun p5 n5 => ?_⟩⟩
          refine ⟨by show 3 ≤ sizeLine; decide, fun p6 n6 => ?_⟩
          refine q _ p6 (((smH.trans s3).trans (same_new n4)).trans ((same_new n5).trans (same_new n6))) ⟨p4, p5, as, upd_same, ?_, (ra.mono (Tups.same s3)).mono (((Tups.new n4).trans (Tups.new n5)).trans (Tups.new n6)), ?_⟩
          · exact ((Tups.new n5).trans (Tups.new n6)) _ _ upd_same
          · exact (Tups.new n6) _ _ upd_same
end
end LH

namespace LH
open PySem PySem.Spec PyProof.Rows L2 NdefX LamX
/-! ### walked: the states in the order of their first words -/
def AtT (tbl : List (List Nat)) (r c v : Nat) : Prop := ∃ row, tbl[r]? = some row ∧ row[c]? = some v
structure WI (n0 L : Nat) (R : Nat → List Nat) (s0 : Nat) (ks : List Nat) (tbl : List (List Nat)) : Prop where
  one : ks[0]? = some s0
  nd : ks.Nodup
  lt : ∀ s ∈ ks, s < n0
  le : tbl.length ≤ ks.length
  row : ∀ (j s : Nat) (r : List Nat), ks[j]? = some s → tbl[j]? = some r → r.length ≤ L ∧ ∀ c v : Nat, r[c]? = some v → ∃ t : Nat, (R s)[c]? = some t ∧ ks[v]? = some t
  bfs : ∀ k, 1 ≤ k → k < ks.length → ∃ r c, r < k ∧ AtT tbl r c k ∧ ∀ r' c' v, (r' < r ∨ (r' = r ∧ c' < c)) → AtT tbl r' c' v → v < k
theorem at_snoc {tbl : List (List Nat)} {cur : List Nat} {r c v : Nat} : AtT (tbl ++ [cur]) r c v ↔ AtT tbl r c v ∨ (r = tbl.length ∧ cur[c]? = some v) := by
  unfold AtT
  by_cases h : r < tbl.length
  · rw [List.getElem?_append_left h]
    exact ⟨fun z => .inl z, fun z => z.elim id fun y => absurd h (by omega)⟩
  · by_cases h2 : r = tbl.length
    · subst h2
      rw [List.getElem?_append_right (Nat.le_refl _), Nat.sub_self]
      constructor
      · rintro ⟨row, e, q⟩
        cases e
        exact .inr ⟨rfl, q⟩
      · rintro (⟨row, e, q⟩ | ⟨_, q⟩)
        · rw [List.getElem?_eq_none (Nat.le_refl _)] at e
          cases e
        · exact ⟨cur, rfl, q⟩
    · rw [List.getElem?_eq_none (by rw [List.length_append]; show tbl.length + 1 ≤ r; omega), List.getElem?_eq_none (by omega)]
      constructor
      · rintro ⟨row, e, _⟩
        cases e
      · rintro (⟨row, e, _⟩ | ⟨e, _⟩)
        · cases e
        · exact absurd e h2
theorem WI.start {n0 L : Nat} {R : Nat → List Nat} {s0 : Nat} (h : s0 < n0) : WI n0 L R s0 [s0] [] := ⟨rfl, by simp, fun s hs => by rw [List.mem_singleton.mp hs]; exact h, by simp, fun j s r _ e => by simp at e, fun k h1 h2 => by
  have : k < 1 := h2
  omega⟩
theorem WI.open_ {n0 L : Nat} {R : Nat → List Nat} {s0 : Nat} {ks : List Nat} {tbl : List (List Nat)} (h : WI n0 L R s0 ks tbl) (l : tbl.length < ks.length) : WI n0 L R s0 ks (tbl ++ [[]]) := by
  have key : ∀ r c v, AtT (tbl ++ [[]]) r c v ↔ AtT tbl r c v := fun r c v => by
    rw [at_snoc]
    exact ⟨fun z => z.elim id fun y => by have := y.2; simp at this, .inl⟩
  refine ⟨h.one, h.nd, h.lt, by rw [List.length_append]; exact l, fun j s r hs hr => ?_, fun k h1 h2 => ?_⟩
  · by_cases hj : j < tbl.length
    · rw [List.getElem?_append_left hj] at hr
      exact h.row j s r hs hr
    · rw [List.getElem?_append_right (by omega)] at hr
      have : j - tbl.length = 0 := by
        cases z : j - tbl.length with
        | zero => rfl
        | succ m =>
          rw [z] at hr
          simp at hr
      rw [this] at hr
      cases hr
      exact ⟨Nat.zero_le _, fun c v e => by simp at e⟩
  · obtain ⟨r, c, a, b, d⟩ := h.bfs k h1 h2
    exact ⟨r, c, a, (key r c k).mpr b, fun r' c' v lt e => d r' c' v lt ((key r' c' v).mp e)⟩
/-- one more number in the last row; ks' is ks, or ks and the state that is new -/
theorem WI.put {n0 L : Nat} {R : Nat → List Nat} {s0 : Nat} {ks ks' : List Nat} {tbl : List (List Nat)} {cur : List Nat} {s t v : Nat} (h : WI n0 L R s0 ks (tbl ++ [cur])) (hs : ks[tbl.length]? = some s) (ht : (R s)[cur.length]? = some t) (htn : t < n0) (hL : (R s).length ≤ L) (hv : ks'[v]? = some t)
    (hk : ks' = ks ∨ (ks' = ks ++ [t] ∧ t ∉ ks)) : WI n0 L R s0 ks' (tbl ++ [cur ++ [v]]) := by
  have ext : ∀ j x, ks[j]? = some x → ks'[j]? = some x := fun j x e => by
    rcases hk with rfl | ⟨rfl, _⟩
    · exact e
    · rw [List.getElem?_append_left (List.getElem?_eq_some_iff.mp e).1]
      exact e
  have back_ : ∀ j x, j ≤ tbl.length → ks'[j]? = some x → ks[j]? = some x := fun j x hj e => by
    have hl := (List.getElem?_eq_some_iff.mp hs).1
    rcases hk with rfl | ⟨rfl, _⟩
    · exact e
    · rw [List.getElem?_append_left (by omega)] at e
      exact e
  have key : ∀ r c x, AtT (tbl ++ [cur ++ [v]]) r c x ↔ AtT (tbl ++ [cur]) r c x ∨ (r = tbl.length ∧ c = cur.length ∧ x = v) := fun r c x => by
    rw [at_snoc, at_snoc]
    constructor
    · rintro (z | ⟨e, q⟩)
      · exact .inl (.inl z)
      · by_cases hc : c < cur.length
        · rw [List.getElem?_append_left hc] at q
          exact .inl (.inr ⟨e, q⟩)
        · rw [List.getElem?_append_right (by omega)] at q
          cases z : c - cur.length with
          | zero =>
            rw [z] at q
            cases q
            exact .inr ⟨e, by omega, rfl⟩
          | succ m =>
            rw [z] at q
            simp at q
    · rintro ((z | ⟨e, q⟩) | ⟨e1, e2, e3⟩)
      · exact .inl z
      · exact .inr ⟨e, by rw [List.getElem?_append_left (List.getElem?_eq_some_iff.mp q).1]; exact q⟩
      · subst e1 e2 e3
        refine .inr ⟨rfl, ?_⟩
        rw [List.getElem?_append_right (Nat.le_refl _), Nat.sub_self]
        rfl
  have bound : ∀ r c x, AtT (tbl ++ [cur]) r c x → x < ks.length := fun r c x ⟨row, e, q⟩ => by
    have hr := (List.getElem?_eq_some_iff.mp e).1
    have hle := h.le
    have : r < ks.length := by omega
    obtain ⟨_, z⟩ := h.row r _ row (List.getElem?_eq_getElem this) e
    obtain ⟨t', _, y⟩ := z c x q
    exact (List.getElem?_eq_some_iff.mp y).1
  have lk : ks.length ≤ ks'.length := by
    rcases hk with rfl | ⟨rfl, _⟩
    · exact Nat.le_refl _
    · rw [List.length_append]
      omega
  refine ⟨ext 0 _ h.one, ?_, ?_, ?_, fun j s1 r hs1 hr => ?_, fun k h1 h2 => ?_⟩
  · rcases hk with rfl | ⟨rfl, nin⟩
    · exact h.nd
    · refine List.nodup_append.mpr ⟨h.nd, by simp, fun x hx y hy e => ?_⟩
      rw [List.mem_singleton.mp hy] at e
      exact nin (e ▸ hx)
  · rcases hk with rfl | ⟨rfl, _⟩
    · exact h.lt
    · exact mem_snoc h.lt htn
  · have := h.le
    rw [List.length_append] at this ⊢
    exact Nat.le_trans this lk
  · by_cases hj : j < tbl.length
    · rw [List.getElem?_append_left hj] at hr
      obtain ⟨a, b⟩ := h.row j s1 r (back_ j s1 (by omega) hs1) (by rw [List.getElem?_append_left hj]; exact hr)
      refine ⟨a, fun c x e => ?_⟩
      obtain ⟨t', y1, y2⟩ := b c x e
      exact ⟨t', y1, ext _ _ y2⟩
    · rw [List.getElem?_append_right (by omega)] at hr
      have ej : j - tbl.length = 0 := by
        cases z : j - tbl.length with
        | zero => rfl
        | succ m =>
          rw [z] at hr
          simp at hr
      rw [ej] at hr
      cases hr
      have ej2 : j = tbl.length := by omega
      subst ej2
      have hs2 := back_ _ s1 (Nat.le_refl _) hs1
      rw [hs] at hs2
      cases hs2
      obtain ⟨a, b⟩ := h.row tbl.length s cur hs (by rw [List.getElem?_append_right (Nat.le_refl _), Nat.sub_self]; rfl)
      have hcl := (List.getElem?_eq_some_iff.mp ht).1
      refine ⟨by rw [List.length_append]; show cur.length + 1 ≤ L; omega, fun c x e => ?_⟩
      by_cases hc : c < cur.length
      · rw [List.getElem?_append_left hc] at e
        obtain ⟨t', y1, y2⟩ := b c x e
        exact ⟨t', y1, ext _ _ y2⟩
      · rw [List.getElem?_append_right (by omega)] at e
        have ec : c - cur.length = 0 := by
          cases z : c - cur.length with
          | zero => rfl
          | succ m =>
            rw [z] at e
            simp at e
        rw [ec] at e
        cases e
        have : c = cur.length := by omega
        subst this
        exact ⟨t, ht, hv⟩
  · by_cases hkl : k < ks.length
    · obtain ⟨r, c, a, b, d⟩ := h.bfs k h1 hkl
      refine ⟨r, c, a, (key r c k).mpr (.inl b), fun r' c' x lt e => ?_⟩
      rcases (key r' c' x).mp e with z | ⟨e1, e2, _⟩
      · exact d r' c' x lt z
      · -- the new place is behind all others
        obtain ⟨row, y1, y2⟩ := b
        have hr := (List.getElem?_eq_some_iff.mp y1).1
        rw [List.length_append] at hr
        have hr : r < tbl.length + 1 := hr
        rcases lt with lt | ⟨l1, l2⟩
        · omega
        · have : r = tbl.length := by omega
          subst this
          rw [List.getElem?_append_right (Nat.le_refl _), Nat.sub_self] at y1
          cases y1
          have := (List.getElem?_eq_some_iff.mp y2).1
          omega
    · rcases hk with rfl | ⟨rfl, nin⟩
      · omega
      · have ek : k = ks.length := by
          rw [List.length_append] at h2
          have : k < ks.length + 1 := h2
          omega
        have ev : v = ks.length := by
          have hvl := (List.getElem?_eq_some_iff.mp hv).1
          rw [List.length_append] at hvl
          have hvl : v < ks.length + 1 := hvl
          by_cases z : v < ks.length
          · rw [List.getElem?_append_left z] at hv
            exact absurd (List.mem_of_getElem? hv) nin
          · omega
        subst ek
        refine ⟨tbl.length, cur.length, (List.getElem?_eq_some_iff.mp hs).1, (key _ _ _).mpr (.inr ⟨rfl, rfl, ev.symm⟩), fun r' c' x lt e => ?_⟩
        rcases (key r' c' x).mp e with z | ⟨e1, e2, _⟩
        · exact bound r' c' x z
        · omega
abbrev mk (ks : List Nat) : List (Key × V) := ks.zipIdx.map fun (p : Nat × Nat) => ((Sum.inl (p.1 : Int) : Key), V.int (p.2 : Int))
theorem mk_snoc (ks : List Nat) (t : Nat) : mk (ks ++ [t]) = mk ks ++ [((Sum.inl (t : Int) : Key), V.int (ks.length : Int))] := by
  show List.map _ (ks ++ [t]).zipIdx = _
  rw [List.zipIdx_append, List.map_append]
  simp
theorem valV_mkk (x : Nat) : ∀ (ks : List Nat) (k : Nat), valV ((ks.zipIdx k).map fun (p : Nat × Nat) => ((Sum.inl (p.1 : Int) : Key), V.int (p.2 : Int))) (Sum.inl (x : Int) : Key) = if x ∈ ks then some (.int ((k + ks.idxOf x : Nat) : Int)) else none
  | [], _ => rfl
  | h :: r, k => by
    rw [List.zipIdx_cons, List.map_cons, List.idxOf_cons]
    by_cases q : h = x
    · subst q
      rw [valV_pos rfl, if_pos (List.mem_cons_self ..)]
      simp
    · have ne : ¬ (((h, k) : Nat × Nat) |> fun p => ((Sum.inl (p.1 : Int) : Key), V.int (p.2 : Int))).1 = (Sum.inl (x : Int) : Key) := fun z => q (by
        have z1 : ((h : Nat) : Int) = (x : Int) := Sum.inl.inj z
        exact Int.ofNat.inj z1)
      rw [valV_neg ne, valV_mkk x r (k + 1), show (h == x) = false from beq_eq_false_iff_ne.mpr q]
      have : (x ∈ h :: r) ↔ x ∈ r := ⟨fun z => (List.mem_cons.mp z).elim (fun y => absurd y.symm q) id, List.mem_cons_of_mem _⟩
      by_cases e : x ∈ r
      · rw [if_pos e, if_pos (this.mpr e)]
        show some (V.int ((k + 1 + r.idxOf x : Nat) : Int)) = some (V.int ((k + (r.idxOf x + 1) : Nat) : Int))
        congr 2
        omega
      · rw [if_neg e, if_neg (fun z => e (this.mp z))]
theorem valV_mk (x : Nat) (ks : List Nat) : valV (mk ks) (Sum.inl (x : Int) : Key) = if x ∈ ks then some (.int ((ks.idxOf x : Nat) : Int)) else none := by
  have := valV_mkk x ks 0
  rw [Nat.zero_add] at this
  exact this
theorem mk_len (ks : List Nat) : (mk ks).length = ks.length := by
  show (List.map _ _).length = _
  rw [List.length_map, List.length_zipIdx]
theorem WI.many {n0 L : Nat} {R : Nat → List Nat} {s0 : Nat} {ks : List Nat} {tbl : List (List Nat)} (h : WI n0 L R s0 ks tbl) : ks.length ≤ n0 := by
  have := len_le_of_sub (ys := List.range n0) h.nd fun x hx => List.mem_range.mpr (h.lt x hx)
  rw [List.length_range] at this
  exact this
end LH

namespace LH
open PySem PySem.Spec PyProof.Rows L2 NdefX LamX
section
variable {P : Program} {w : World} {K : PySem.W.Frag} {mg : Str → Option Value} {base : Heap}
def sp_walked (P : Program) (w : World) (K : PySem.W.Frag) (mg : Str → Option Value) (base : Heap) : Sp := fun vs H Q _ => ∃ (f : Addr) (F : NF) (spf : Sp) (s0 n0 L : Nat) (R : Nat → List Nat), vs = [.int (s0 : Int), .ref f] ∧ H f = some (FnO f F) ∧ Callable P w K mg base 4 f spf ∧ s0 < n0 ∧ n0 ≤ 1000000 ∧ L ≤ 5 ∧ (∀ s, s < n0 → (R s).length = L ∧ ∀ t ∈ R s, t < n0) ∧
  (∀ (s : Nat) (H' : Hp) (Q' : VK), s < n0 → Same H H' → (∀ H'' p, Same H' H'' → H'' p = some (.tup (vi (R s))) → Q' (.ref p) H'') → spf [.int (s : Int)] H' Q' E0) ∧
  ∀ H' p ka tb ras ks tbl, Same H H' → H' p = some (.tup [.ref ka, .ref tb]) → H' ka = some (.lst (vi ks)) → LolAt H' tb ras tbl → WI n0 L R s0 ks tbl → tbl.length = ks.length → (∀ r ∈ tbl, r.length = L) → Q (.ref p) H'
theorem lol_snoc {H : Hp} {tb ra : Addr} {ras : List Addr} {tbl : List (List Nat)} {row : List Nat} (h : LolAt H tb ras tbl) (hr : H ra = some (.lst (vi row))) (nt : ∀ a ∈ ras, a ≠ tb) (nr : ra ≠ tb) : LolAt (upd H tb (.lst (vr (ras ++ [ra])))) tb (ras ++ [ra]) (tbl ++ [row]) := by
  refine ⟨upd_same, by rw [List.length_append, List.length_append, h.2.1]; rfl, fun i b w x y => ?_⟩
  by_cases hi : i < ras.length
  · rw [List.getElem?_append_left hi] at x
    rw [List.getElem?_append_left (by rw [← h.2.1]; exact hi)] at y
    rw [upd_ne (nt b (List.mem_of_getElem? x))]
    exact h.2.2 i b w x y
  · rw [List.getElem?_append_right (by omega)] at x
    rw [List.getElem?_append_right (by rw [← h.2.1]; omega), ← h.2.1] at y
    have e : i - ras.length = 0 := by
      cases q : i - ras.length with
      | zero => rfl
      | succ k =>
        rw [q] at x
        simp at x
    rw [e] at x y
    cases x
    cases y
    rw [upd_ne nr]
    exact hr
theorem ok_walked (T : TX K mg) : FnOk P w K mg base CX0 5 T.a_walked T.fd_walked ["start", "follow"] (sp_walked P w K mg base) := by
  refine T.F_walked.ok sc_walked (fun vs H Q E h => ?_) (fun cdv A outer s H vs Q E hr h => ?_)
  · obtain ⟨f, F, spf, s0, n0, L, R, rfl, _⟩ := h
    rfl
  · obtain ⟨f, F, spf, s0, n0, L, R, rfl, hf, ca, h0, hbig, hL, hR, hsp, q⟩ := h
    refine ⟨_, (pss_cons (ps_set (i := 2) sc_walked.nd rfl (Or.inl rfl) (pe_disp (pps_cons (pv 0) pe_int pps_nil) (by rfl) (by rfl) (fun z => by cases z) (by decide)))
      (pss_cons (ps_set (i := 3) sc_walked.nd rfl (Or.inl rfl) (pe_lst (pa_cons (pv 0) pa_nil)))
      (pss_cons (ps_set (i := 4) sc_walked.nd rfl (Or.inl rfl) (pe_lst pa_nil))
      (pss_cons (ps_while PassesOwn.never (pt_cmpR op_lt (pe_callB (call_lenK K rfl) (by rfl) T.m_len (by decide +kernel) (pa_cons (pv 4) pa_nil)) (pe_callB (call_lenK K rfl) (by rfl) T.m_len (by decide +kernel) (pa_cons (pv 3) pa_nil)) (nomark _))
        (pss_cons (ps_set (i := 5) sc_walked.nd rfl (Or.inl rfl) (pe_lst pa_nil))
          (pss_cons (ps_set (i := 6) sc_walked.nd rfl (Or.inl rfl) (pe_callV (k := 4) (i := 1) P w K mg base rfl rfl rfl rfl rfl (hr.mono (by decide)) rfl (by first | exact Or.inl rfl | exact Or.inr (Or.inl rfl) | exact Or.inr (Or.inr rfl)) (pa_cons (pe_ix (ix_listK K rfl) (pv 3) (pe_callB (call_lenK K rfl) (by rfl) T.m_len (by decide +kernel) (pa_cons (pv 4) pa_nil)) (fun _ _ => rfl)) pa_nil)))
          (pss_cons (ps_for PassesOwn.never rfl (pi_tupK K rfl (pv 6)) (pg_name (i := 7) sc_walked.nd rfl (Or.inl rfl))
            (C8.pss_cut (ps_if (pt_cmp (pc_dnotin (hu_of hr) (pv 7) (pv 2)))
                (pss_cons (ps_dput (hu_of hr) (pv 2) (pv 7) (pe_callB (call_lenK K rfl) (by rfl) T.m_len (by decide +kernel) (pa_cons (pv 3) pa_nil)) rfl)
                  (pss_one (ps_expr (pe_bmK K rfl PySem.F.plainAttrs_list PySem.F.slot_list_append PySem.F.type_list_append mt_append (pv 3) (pa_cons (pv 7) pa_nil)))))
                pss_nil)
              (pss_one (ps_expr (pe_bmK K rfl PySem.F.plainAttrs_list PySem.F.slot_list_append PySem.F.type_list_append mt_append (pv 5) (pa_cons (pe_dget (hu_of hr) (pv 2) (pv 7) (fun _ _ => rfl)) pa_nil))))))
          (pss_one (ps_expr (pe_bmK K rfl PySem.F.plainAttrs_list PySem.F.slot_list_append PySem.F.type_list_append mt_append (pv 4) (pa_cons (pv 5) pa_nil))))))))
      (pss_one (ps_ret (pe_tup (pa_cons (pv 3) (pa_cons (pv 4) pa_nil))))))))), ?_⟩
    have sl : ∀ m, m ≤ 1000000 → m < sizeLine := fun m hm => Nat.lt_of_le_of_lt hm (by decide)
    -- numbers, keys, table
    refine fun nm nnm => ⟨.int (s0 : Int), rfl, upd_same, [(Sum.inl (s0 : Int), V.int 0)], rfl, (by show 1 ≤ 15; decide), ?_⟩
    rw [upd_upd]
    refine ⟨.int (s0 : Int), rfl, by show 1 ≤ sizeLine; decide, fun ka nka => ⟨by show 0 ≤ sizeLine; decide, fun ta nta => ?_⟩⟩
    have em : mergeK [] [((Sum.inl (s0 : Int) : Key), V.int 0)] = mk [s0] := rfl
    rw [em] at nka nta ⊢
    have d1 : nm ≠ ka := ne_of_none upd_same nka
    have e1 : (upd (upd H nm (.dK (mk [s0]))) ka (.lst [.int (s0 : Int)])) nm = some (.dK (mk [s0])) := same_new nka _ _ upd_same
    have d2 : nm ≠ ta := ne_of_none e1 nta
    have d3 : ka ≠ ta := ne_of_none upd_same nta
    have fka : H ka = none := (same_new nnm).free nka
    have sm0 : Same H (upd (upd H nm (.dK (mk [s0]))) ka (.lst [.int (s0 : Int)])) := (same_new nnm).trans (same_new nka)
    have fta : H ta = none := sm0.free nta
    -- while
    refine ⟨fun m σ H' => ∃ (ks : List Nat) (tbl : List (List Nat)) (ras : List Addr) (y5 y6 y7 : Option V), m + tbl.length = n0 + 1 ∧ σ = [some (.int (s0 : Int)), some (.ref f), some (.ref nm), some (.ref ka), some (.ref ta), y5, y6, y7] ∧ Same H H' ∧ H' nm = some (.dK (mk ks)) ∧ H' ka = some (.lst (vi ks)) ∧ LolAt H' ta ras tbl ∧ WI n0 L R s0 ks tbl ∧ (∀ r ∈ tbl, r.length = L) ∧ (∀ a ∈ ras, H a = none ∧ a ≠ ta ∧ a ≠ ka),
      ⟨n0 + 1, [s0], [], [], none, none, none, rfl, rfl, sm0.trans (same_new nta), same_new nta _ _ e1, same_new nta _ _ upd_same, ⟨upd_same, rfl, fun i b w x => by simp at x⟩, WI.start h0, (fun _ h => nomatch h), fun _ h => nomatch h⟩, fun m σ H1 hW => ?_⟩
    obtain ⟨ks, tbl, ras, y5, y6, y7, hm, rfl, sm1, en, ek1, ht1, wi, full, fr⟩ := hW
    have hmany := wi.many
    have hrl : ras.length = tbl.length := ht1.2.1
    refine ⟨.ref ta, rfl, ta, _, rfl, .inl (.inl (.inl ht1.1)), .ref ka, rfl, ka, _, rfl, .inl (.inl (.inl ek1)), _, _, rfl, rfl, _, rfl, ite2 (fun z => ?_) (fun z => ?_)⟩
    · have hlt : tbl.length < ks.length := by
        have := of_decide_eq_true z
        rw [List.length_map, List.length_map, hrl] at this
        omega
      refine ⟨fun σ' H' => ∃ (ks : List Nat) (row : List Nat) (ras' : List Addr) (y5 y6 y7 : Option V), σ' = [some (.int (s0 : Int)), some (.ref f), some (.ref nm), some (.ref ka), some (.ref ta), y5, y6, y7] ∧ Same H H' ∧ H' nm = some (.dK (mk ks)) ∧ H' ka = some (.lst (vi ks)) ∧ LolAt H' ta ras' (tbl ++ [row]) ∧ WI n0 L R s0 ks (tbl ++ [row]) ∧ row.length = L ∧ (∀ a ∈ ras', H a = none ∧ a ≠ ta ∧ a ≠ ka), fun σ' H' hN => ?_, ?_⟩
      · obtain ⟨ks', row, ras', y5, y6, y7, r1, r2, r3, r4, r5, r6, r7, r8⟩ := hN
        have := r6.le
        have hm' := r6.many
        rw [List.length_append] at this
        have this : tbl.length + 1 ≤ ks'.length := this
        refine ⟨m - 1, by omega, ks', tbl ++ [row], ras', y5, y6, y7, ?_, r1, r2, r3, r4, r5, r6, mem_snoc full r7, r8⟩
        rw [List.length_append]
        show m - 1 + (tbl.length + 1) = n0 + 1
        omega
      -- row = []
      refine ⟨by show 0 ≤ sizeLine; decide, fun ra nra => ?_⟩
      have sm2 : Same H (upd H1 ra (.lst [])) := sm1.trans (same_new nra)
      have s2 : Same H1 (upd H1 ra (.lst [])) := same_new nra
      have era : (upd H1 ra (.lst [])) ra = some (.lst (vi [])) := upd_same
      have fra : H ra = none := sm1.free nra
      have ra1 : nm ≠ ra := ne_of_none en nra
      have ra2 : ka ≠ ra := ne_of_none ek1 nra
      have ra3 : ta ≠ ra := ne_of_none ht1.1 nra
      have ra4 : ∀ a ∈ ras, a ≠ ra := fun a ha e => by
        obtain ⟨i, hi⟩ := List.mem_iff_getElem?.mp ha
        have hil : i < tbl.length := by
          rw [← hrl]
          exact (List.getElem?_eq_some_iff.mp hi).1
        have := ht1.2.2 i a _ hi (List.getElem?_eq_getElem hil)
        exact ne_of_none this nra e
      have en2 := s2 _ _ en
      have ek2 := s2 _ _ ek1
      have ht2 := ht1.same s2
      generalize upd H1 ra (.lst []) = H2 at sm2 s2 era en2 ek2 ht2
      have hks : ks[tbl.length]? = some ks[tbl.length] := List.getElem?_eq_getElem hlt
      generalize ks[tbl.length] = sx at hks
      have hsx : sx < n0 := wi.lt sx (List.mem_of_getElem? hks)
      obtain ⟨hRl, hRt⟩ := hR sx hsx
      have hvk : (vi ks)[ras.length]? = some (.int (sx : Int)) := by
        rw [List.getElem?_map, hrl, hks]
        rfl
      -- behind = follow(keys[len(table)])
      refine ⟨f, F, spf, rfl, sm2 _ _ hf, ca, .ref ka, rfl, .ref ta, rfl, ta, _, rfl, .inl (.inl (.inl ht2.1)), ka, _, _, .int (sx : Int), rfl, rfl, .inl (.inl ek2), ?_, sm2 _ _ hf, hsp sx H2 _ hsx sm2 fun H3 pb s3 eb => ?_⟩
      · rw [List.length_map]
        exact atI_nat hvk
      have wi0 := wi.open_ hlt
      -- for key in behind
      refine ⟨.ref pb, rfl, pb, rfl, ⟨_, .inl (.inl eb)⟩, ?_⟩
      refine for_it (walk_tup (K := K) (a := pb) (xs := vi (R sx))) (fun c σ H' => (∃ ks cur, Same H H' ∧ H' nm = some (.dK (mk ks)) ∧ H' ka = some (.lst (vi ks)) ∧ LolAt H' ta ras tbl ∧ H' ra = some (.lst (vi cur)) ∧ H' pb = some (.tup (vi (R sx))) ∧ cur.length = c ∧ ks[tbl.length]? = some sx ∧ WI n0 L R s0 ks (tbl ++ [cur])) ∧ ∃ y7, σ = [some (.int (s0 : Int)), some (.ref f), some (.ref nm), some (.ref ka), some (.ref ta), some (.ref ra), some (.ref pb), y7]) ⟨⟨ks, [], sm2.trans s3, s3 _ _ en2, s3 _ _ ek2, ht2.same s3, s3 _ _ era, eb, rfl, hks, wi0⟩, y7, rfl⟩ (fun c σ H' _ hW => ?_) (fun c x σ H4 H4' hc hW hY => ?_) (fun σ H4 hW => ?_)
      · obtain ⟨⟨_, _, _, _, _, _, _, z, _⟩, _⟩ := hW
        exact .inl (.inl z)
      · obtain ⟨⟨ks, cur, sm4, en4, ek4, ht4, er4, eb4, lc, hk4, wi4⟩, y7, rfl⟩ := hW
        obtain ⟨rfl, hx⟩ := hY
        obtain ⟨t, ht, rfl⟩ := int_at hx
        have htn := hRt t (List.mem_of_getElem? ht)
        have hm4 := wi4.many
        have nlol : ∀ {H5 : Hp}, (∀ b, b ≠ nm → b ≠ ka → b ≠ ra → H5 b = H4' b) → LolAt H5 ta ras tbl := fun {H5} hh => by
          refine ⟨by rw [hh ta (Ne.symm d2) (Ne.symm d3) ra3]; exact ht4.1, ht4.2.1, fun i b w' x' y' => ?_⟩
          have z := ht4.2.2 i b w' x' y'
          rw [hh b (ne_of z en4 (by intro q; cases q)) (fr b (List.mem_of_getElem? x')).2.2 (ra4 b (List.mem_of_getElem? x'))]
          exact z
        refine ⟨fun σ' H' => ∃ ks', (ks' = ks ∨ (ks' = ks ++ [t] ∧ t ∉ ks)) ∧ t ∈ ks' ∧ ks'.Nodup ∧ σ' = [some (.int (s0 : Int)), some (.ref f), some (.ref nm), some (.ref ka), some (.ref ta), some (.ref ra), some (.ref pb), some (.int (t : Int))] ∧ Same H H' ∧ H' nm = some (.dK (mk ks')) ∧ H' ka = some (.lst (vi ks')) ∧ (∀ b, b ≠ nm → b ≠ ka → H' b = H4' b), ?_, fun σ' H' hM => ?_⟩
        · refine ⟨.int (t : Int), rfl, .ref nm, rfl, nm, _, rfl, DGet.k (k := Sum.inl (t : Int)) en4, _, rfl, ?_⟩
          rw [valV_mk]
          by_cases hin : t ∈ ks
          · rw [if_pos hin]
            refine iteF ?_
            exact ⟨ks, .inl rfl, hin, wi4.nd, rfl, sm4, en4, ek4, fun _ _ _ => rfl⟩
          · rw [if_neg hin]
            refine iteT ?_
            have ep : putK (mk ks) (Sum.inl (t : Int) : Key) (V.int ((vi ks).length : Int)) = mk (ks ++ [t]) := by
              unfold putK
              rw [valV_any, valV_mk, if_neg hin, if_neg (by decide), mk_snoc, List.length_map]
            refine ⟨.ref ka, rfl, ka, _, rfl, .inl (.inl (.inl ek4)), .ref nm, rfl, .int (t : Int), rfl, nm, _, rfl, DPut.k (k := Sum.inl (t : Int)) en4 (by rw [mk_len]; exact sl _ (by omega)), ?_⟩
            rw [ep]
            have ek5 : (upd H4' nm (.dK (mk (ks ++ [t])))) ka = some (.lst (vi ks)) := by
              rw [upd_ne (Ne.symm d1)]
              exact ek4
            refine ⟨.ref ka, rfl, .inl ⟨rfl, _, .inl (.inl ek5)⟩, .int (t : Int), rfl, ka, _, _, rfl, rfl, ek5, by rw [List.length_map]; exact sl _ (by omega), ks ++ [t], .inr ⟨rfl, hin⟩, List.mem_append_right _ (List.mem_singleton.mpr rfl), ?_, rfl, ?_, ?_, ?_, ?_⟩
            · refine List.nodup_append.mpr ⟨wi4.nd, by simp, fun x hx y hy e => ?_⟩
              rw [List.mem_singleton.mp hy] at e
              exact hin (e ▸ hx)
            · intro b o e
              rw [upd_ne (ne_of_none e fka), upd_ne (ne_of_none e nnm)]
              exact sm4 _ _ e
            · rw [upd_ne d1, upd_same]
            · rw [upd_same, vi_snoc]
            · intro b h1 h2
              rw [upd_ne h2, upd_ne h1]
        · obtain ⟨ks', hk', htin, nd', rfl, sm5, en5, ek5, rest⟩ := hM
          have er5 : H' ra = some (.lst (vi cur)) := by
            rw [rest ra (Ne.symm ra1) (Ne.symm ra2)]
            exact er4
          have hvt : ks'[ks'.idxOf t]? = some t := by
            have := List.idxOf_lt_length_iff.mpr htin
            rw [List.getElem?_eq_getElem this, List.getElem_idxOf]
          have hk5 : ks'[tbl.length]? = some sx := by
            rcases hk' with rfl | ⟨rfl, _⟩
            · exact hk4
            · rw [List.getElem?_append_left (List.getElem?_eq_some_iff.mp hk4).1]
              exact hk4
          -- row.append(numbers[key])
          refine ⟨.ref ra, rfl, .inl ⟨rfl, _, .inl (.inl er5)⟩, .ref nm, rfl, .int (t : Int), rfl, nm, .int (ks'.idxOf t : Nat), rfl, ?_, ra, _, _, rfl, rfl, er5, by rw [List.length_map]; exact sl _ (by rw [List.length_map] at hc; omega), ⟨ks', cur ++ [ks'.idxOf t], ?_, ?_, ?_, ?_, ?_, ?_, ?_, hk5, ?_⟩, _, rfl⟩
          · have := DGet.k (k := Sum.inl (t : Int)) en5
            rw [valV_mk, if_pos htin] at this
            exact this
          · intro b o e
            rw [upd_ne (ne_of_none e fra)]
            exact sm5 _ _ e
          · rw [upd_ne ra1]
            exact en5
          · rw [upd_ne ra2]
            exact ek5
          · exact nlol fun b h1 h2 h3 => by
              rw [upd_ne h3]
              exact rest b h1 h2
          · rw [upd_same, vi_snoc]
          · have pbr : pb ≠ ra := ne_of eb4 er4 (by intro z; cases z)
            rw [upd_ne pbr, rest pb (ne_of eb4 en4 (by intro z; cases z)) (ne_of eb4 ek4 (by intro z; cases z))]
            exact eb4
          · rw [List.length_append, lc]
            rfl
          · exact wi4.put hk4 (by rw [lc]; exact ht) htn (by omega) hvt hk'
      · obtain ⟨⟨ks, cur, sm4, en4, ek4, ht4, er4, eb4, lc, hk4, wi4⟩, y7, rfl⟩ := hW
        rw [List.length_map, hRl] at lc
        have nt : ∀ a ∈ ras, a ≠ ta := fun a ha => (fr a ha).2.1
        -- table.append(row)
        refine ⟨.ref ta, rfl, .inl ⟨rfl, _, .inl (.inl ht4.1)⟩, .ref ra, rfl, ta, _, _, rfl, rfl, ht4.1, by rw [List.length_map, hrl]; exact sl _ (by omega), ks, cur, ras ++ [ra], _, _, _, rfl, ?_, ?_, ?_, ?_, wi4, lc, ?_⟩
        · intro b o e
          rw [upd_ne (ne_of_none e fta)]
          exact sm4 _ _ e
        · rw [upd_ne d2]
          exact en4
        · rw [upd_ne d3]
          exact ek4
        · rw [vr_snoc]
          exact lol_snoc ht4 er4 nt (Ne.symm ra3)
        · exact mem_snoc fr ⟨fra, Ne.symm ra3, Ne.symm ra2⟩
    · have hle := wi.le
      have hlen : tbl.length = ks.length := by
        have : ¬ (((vr ras).length : Nat) : Int) < ((vi ks).length : Nat) := fun y => z (decide_eq_true y)
        rw [List.length_map, List.length_map, hrl] at this
        omega
      refine ⟨.ref ka, rfl, .ref ta, rfl, by show 2 ≤ sizeLine; decide, fun p np => ?_⟩
      exact q _ p ka ta ras ks tbl (sm1.trans (same_new np)) upd_same (same_new np _ _ ek1) (ht1.same (same_new np)) wi hlen full
end
end LH

namespace LH
open PySem PySem.Spec PyProof.Rows L2 NdefX LamX
structure BuiltOk (n0 L : Nat) (R : Nat → List Nat) (s0 : Nat) (fin : Nat → Bool) (M : Mach) (ks : List Nat) (tbl : List (List Nat)) (hl : List Nat) : Prop where
  wi : WI n0 L R s0 ks tbl
  len : tbl.length = ks.length
  full : ∀ r ∈ tbl, r.length = L
  hlen : hl.length = ks.length
  like : ∀ s t, s < ks.length → t < ks.length → (hl[s]? = hl[t]? ↔ Eqv tbl (ks.map fin) L s t)
  rows : M.rows = mRows tbl hl
  ends : M.ends = mEnds (ks.map fin) hl
theorem BuiltOk.tab {n0 L : Nat} {R : Nat → List Nat} {s0 : Nat} {ks : List Nat} {tbl : List (List Nat)} (wi : WI n0 L R s0 ks tbl) (len : tbl.length = ks.length) (full : ∀ r ∈ tbl, r.length = L) (h1 : 1 ≤ L) (h5 : L ≤ 5) (hb : n0 ≤ 1000000) : TabOk ks.length L tbl := by
  have hm := wi.many
  refine ⟨len, (List.getElem?_eq_some_iff.mp wi.one).1, by omega, h1, h5, fun r hr => ⟨full r hr, fun t ht => ?_⟩⟩
  obtain ⟨j, hj⟩ := List.mem_iff_getElem?.mp hr
  obtain ⟨c, hc⟩ := List.mem_iff_getElem?.mp ht
  have hjl : j < ks.length := by
    rw [← len]
    exact (List.getElem?_eq_some_iff.mp hj).1
  obtain ⟨_, z⟩ := wi.row j _ r (List.getElem?_eq_getElem hjl) hj
  obtain ⟨t', _, y⟩ := z c t hc
  exact (List.getElem?_eq_some_iff.mp y).1
section
variable {P : Program} {w : World} {K : PySem.W.Frag} {mg : Str → Option Value} {base : Heap}
def sp_built (P : Program) (w : World) (K : PySem.W.Frag) (mg : Str → Option Value) (base : Heap) : Sp := fun vs H Q _ => ∃ (z : Str) (f g : Addr) (F G : NF) (spf spg : Sp) (s0 n0 L : Nat) (R : Nat → List Nat) (fin : Nat → Bool), vs = [.str z, .int (s0 : Int), .ref f, .ref g] ∧ H f = some (FnO f F) ∧ Callable P w K mg base 4 f spf ∧ H g = some (FnO g G) ∧ Callable P w K mg base 4 g spg ∧
  s0 < n0 ∧ n0 ≤ 1000000 ∧ 1 ≤ L ∧ L ≤ 5 ∧ (∀ s, s < n0 → (R s).length = L ∧ ∀ t ∈ R s, t < n0) ∧
  (∀ (s : Nat) (H' : Hp) (Q' : VK), s < n0 → Same H H' → (∀ H'' p, Same H' H'' → H'' p = some (.tup (vi (R s))) → Q' (.ref p) H'') → spf [.int (s : Int)] H' Q' E0) ∧
  (∀ (s : Nat) (H' : Hp) (Q' : VK), s < n0 → Same H H' → (∀ H'', Same H' H'' → Q' (.bl (fin s)) H'') → spg [.int (s : Int)] H' Q' E0) ∧
  ∀ H' p (M : Mach) ks tbl hl, Same H H' → MachAt H' p M → M.z = z → BuiltOk n0 L R s0 fin M ks tbl hl → Q (.ref p) H'
theorem ok_built (T : TX K mg) : FnOk P w K mg base CX0 6 T.a_built T.fd_built ["letters", "start", "follow", "is_end"] (sp_built P w K mg base) := by
  have G_walked : FnOk P w K mg base CX0 5 T.a_walked T.fd_walked ["start", "follow"] (sp_walked P w K mg base) := ok_walked T
  have G_parted : FnOk P w K mg base CX0 2 T.a_parted T.fd_parted ["table", "ended"] sp_parted := ok_parted T
  have G_merged : FnOk P w K mg base CX0 1 T.a_merged T.fd_merged ["letters", "table", "ended", "homes"] sp_merged := ok_merged T
  refine T.F_built.ok sc_built (fun vs H Q E h => ?_) (fun cdv A outer s H vs Q E hr h => ?_)
  · obtain ⟨z, f, g, F, G, spf, spg, s0, n0, L, R, fin, rfl, _⟩ := h
    rfl
  · obtain ⟨z, f, g, F, G, spf, spg, s0, n0, L, R, fin, rfl, hf, caf, hg, cag, h0, hbig, hL1, hL5, hR, hspf, hspg, q⟩ := h
    refine ⟨_, (pss_cons (ps_asg (pe_call G_walked (hr.mono (by decide)) (by rfl) T.g_walked T.F_walked.kp T.b_walked .nil pass0 (pa_cons (pv 1) (pa_cons (pv 2) pa_nil))) (pg_tupK (n := 2) K rfl (by rfl) (pgs_cons (pg_name (i := 4) sc_built.nd rfl (Or.inl rfl)) (pgs_cons (pg_name (i := 5) sc_built.nd rfl (Or.inl rfl)) pgs_nil))))
      (pss_cons (ps_setLc (i := 6) (own := [("key", 7)]) (g := gName 7) (tt := tYes) (by rfl) sc_built.nd rfl rfl (sw_true rfl rfl rfl (by decide +kernel)) (pi_listK K rfl (pv 4)) (blkOk_by (own := [("key", 7)]) (N := N_built) (by kernel_rfl)) (fun _ _ _ _ _ => (pg_name (i := 7) sc_built.nd rfl (by first | exact Or.inl rfl | exact Or.inr rfl))) (fun _ _ _ _ _ => pts_nil) (fun _ _ _ _ _ => (pe_callV (k := 4) (i := 3) P w K mg base rfl rfl rfl rfl rfl (hr.mono (by decide)) rfl (by first | exact Or.inl rfl | exact Or.inr (Or.inl rfl) | exact Or.inr (Or.inr rfl)) (pa_cons (pv 7) pa_nil))))
      (pss_one (ps_ret (pe_call G_merged (hr.mono (by decide)) (by rfl) T.g_merged T.F_merged.kp T.b_merged .nil pass0 (pa_cons (pv 0) (pa_cons (pv 5) (pa_cons (pv 6) (pa_cons (pe_call G_parted (hr.mono (by decide)) (by rfl) T.g_parted T.F_parted.kp T.b_parted .nil pass0 (pa_cons (pv 5) (pa_cons (pv 6) pa_nil))) pa_nil))))))))), ?_⟩
    -- keys, table = walked(start, follow)
    refine ⟨.int (s0 : Int), rfl, .ref f, rfl, f, F, spf, s0, n0, L, R, rfl, hf, caf, h0, hbig, hL5, hR, hspf, fun H1 p ka tb ras ks tbl sm1 ep ek et wi len full => ?_⟩
    refine ⟨p, [.ref ka, .ref tb], rfl, .inl (.inl ep), rfl, .ref ka, [.ref tb], rfl, .ref tb, [], rfl, rfl, ?_⟩
    have tk := BuiltOk.tab wi len full hL1 hL5 hbig
    have hm := wi.many
    -- ended
    refine ⟨.ref ka, rfl, ka, rfl, ⟨_, .inl (.inl ek)⟩, fun D nD => ?_⟩
    have fD : H D = none := sm1.free nD
    refine lc_it (walk_list (K := K) (a := ka) (xs := vi ks)) (fun i H' => Same H1 H' ∧ H' D = some (.lst (((ks.take i).map fin).map V.bl))) ⟨same_new nD, upd_same⟩ (fun i H' _ hW => .inl (.inl (hW.1 _ _ ek))) (fun i x H2 H2' hi hW hY => ?_) (fun H2 hW => ?_)
    · obtain ⟨s2, e2⟩ := hW
      obtain ⟨rfl, hx⟩ := hY
      obtain ⟨t, ht, rfl⟩ := int_at hx
      rw [List.length_map] at hi
      refine ⟨rfl, lcyes ?_⟩
      refine ⟨g, G, spg, rfl, s2 _ _ (sm1 _ _ hg), cag, .int (t : Int), rfl, s2 _ _ (sm1 _ _ hg), hspg t H2' _ (wi.lt t (List.mem_of_getElem? ht)) (sm1.trans s2) fun H3 s3 => ?_⟩
      refine ⟨_, s3 _ _ e2, ?_, fun b o eb => ?_, ?_⟩
      · rw [List.length_map, List.length_map, List.length_take]
        exact Nat.lt_of_le_of_lt (show _ ≤ 1000000 by omega) (by decide)
      · rw [upd_ne (ne_of_none eb nD)]
        exact s3 _ _ (s2 _ _ eb)
      · rw [upd_same, take_snoc ht, List.map_append, List.map_append]
        rfl
    · obtain ⟨s2, e2⟩ := hW
      have etk : ks.take (vi ks).length = ks := List.take_of_length_le (by rw [List.length_map]; exact Nat.le_refl _)
      rw [etk] at e2
      have lbs : (ks.map fin).length = ks.length := List.length_map ..
      -- merged(letters, table, ended, parted(table, ended))
      refine ⟨.str z, rfl, .ref tb, rfl, .ref D, rfl, .ref tb, rfl, .ref D, rfl, tb, D, ras, tbl, ks.map fin, ks.length, L, rfl, et.same s2, tk, e2, lbs, fun H3 ho hl s3 fho eho lhl like => ?_⟩
      refine ⟨z, tb, D, ho, ras, tbl, ks.map fin, hl, ks.length, L, rfl, (et.same s2).same s3, tk, s3 _ _ e2, lbs, eho, lhl, fun H4 p4 s4 mm => ?_⟩
      exact q H4 p4 _ ks tbl hl (((sm1.trans s2).trans s3).trans s4) mm rfl ⟨wi, len, full, lhl, like, rfl, rfl⟩
end
end LH

namespace LH
open PySem PySem.Spec PyProof.Rows L2
/-! ### least machines: one for each set of words -/
structure Canon (L : Nat) (rows : List (List Nat)) (ends : List Nat) : Prop where
  one : 1 ≤ rows.length
  row : ∀ r ∈ rows, r.length = L ∧ ∀ t ∈ r, t < rows.length
  endl : ∀ e ∈ ends, e < rows.length
  rise : ends.Pairwise (· < ·)
  bfs : ∀ k, 1 ≤ k → k < rows.length → ∃ r c, r < k ∧ AtT rows r c k ∧ ∀ r' c' v, (r' < r ∨ (r' = r ∧ c' < c)) → AtT rows r' c' v → v < k
  min : ∀ s t, s < rows.length → t < rows.length → (∀ w : List Nat, (∀ c ∈ w, c < L) → (runs rows s w ∈ ends ↔ runs rows t w ∈ ends)) → s = t
theorem at_dl {L : Nat} {rows : List (List Nat)} {r c v : Nat} (h : AtT rows r c v) : dl rows r c = v := by
  obtain ⟨row, e, q⟩ := h
  have e1 : rows.getD r [] = row := by
    rw [List.getD_eq_getElem?_getD, e]
    rfl
  unfold dl
  rw [e1, List.getD_eq_getElem?_getD, q]
  rfl
theorem Canon.at_ {L : Nat} {rows : List (List Nat)} {ends : List Nat} (h : Canon L rows ends) {s c : Nat} (hs : s < rows.length) (hc : c < L) : AtT rows s c (dl rows s c) ∧ dl rows s c < rows.length := by
  have e : rows[s]? = some rows[s] := List.getElem?_eq_getElem hs
  obtain ⟨l, t⟩ := h.row _ (List.getElem_mem hs)
  have hcl : c < rows[s].length := by omega
  have q : rows[s][c]? = some rows[s][c] := List.getElem?_eq_getElem hcl
  have a : AtT rows s c rows[s][c] := ⟨_, e, q⟩
  rw [at_dl (L := L) a]
  exact ⟨a, t _ (List.getElem_mem hcl)⟩
theorem Canon.col {L : Nat} {rows : List (List Nat)} {ends : List Nat} (h : Canon L rows ends) {r c v : Nat} (a : AtT rows r c v) : r < rows.length ∧ c < L := by
  obtain ⟨row, e, q⟩ := a
  have := (h.row row (List.mem_of_getElem? e)).1
  exact ⟨(List.getElem?_eq_some_iff.mp e).1, by rw [← this]; exact (List.getElem?_eq_some_iff.mp q).1⟩
/-- states of two machines with the same words ahead -/
def Like (L : Nat) (rows : List (List Nat)) (ends : List Nat) (rows' : List (List Nat)) (ends' : List Nat) (s s' : Nat) : Prop := ∀ w : List Nat, (∀ c ∈ w, c < L) → (runs rows s w ∈ ends ↔ runs rows' s' w ∈ ends')
theorem Like.step {L : Nat} {rows rows' : List (List Nat)} {ends ends' : List Nat} {s s' c : Nat} (h : Like L rows ends rows' ends' s s') (hc : c < L) : Like L rows ends rows' ends' (dl rows s c) (dl rows' s' c) := fun w hw => h (c :: w) fun d hd => by
  rcases List.mem_cons.mp hd with rfl | hd
  · exact hc
  · exact hw d hd
theorem canon_half {L : Nat} {rows rows' : List (List Nat)} {ends ends' : List Nat} (h : Canon L rows ends) (h' : Canon L rows' ends') (e : Like L rows ends rows' ends' 0 0) : ∀ k, k < rows.length → k < rows'.length ∧ Like L rows ends rows' ends' k k := by
  intro k
  induction k using Nat.strongRecOn with
  | ind k ih =>
    intro hk
    by_cases h0 : k = 0
    · subst h0
      exact ⟨h'.one, e⟩
    · obtain ⟨r, c, hr, ha, hb⟩ := h.bfs k (by omega) hk
      obtain ⟨hrl, hcL⟩ := h.col ha
      obtain ⟨hr', lr⟩ := ih r hr hrl
      have lk := lr.step hcL
      rw [at_dl (L := L) ha] at lk
      obtain ⟨a', b'⟩ := h'.at_ hr' hcL
      have big : ¬ dl rows' r c < k := fun z => by
        obtain ⟨_, lj⟩ := ih _ z (by omega)
        have := h.min k (dl rows' r c) hk (by omega) fun w hw => (lk w hw).trans (lj w hw).symm
        omega
      have eq : dl rows' r c = k := by
        by_cases z : dl rows' r c = k
        · exact z
        · exfalso
          have hk' : k < rows'.length := by omega
          obtain ⟨r2, c2, hr2, ha2, hb2⟩ := h'.bfs k (by omega) hk'
          obtain ⟨hr2l, hc2L⟩ := h'.col ha2
          by_cases o1 : r < r2 ∨ (r = r2 ∧ c < c2)
          · have := hb2 r c _ o1 a'
            omega
          · by_cases o2 : r = r2 ∧ c = c2
            · obtain ⟨rfl, rfl⟩ := o2
              exact z (at_dl (L := L) ha2)
            · have o3 : r2 < r ∨ (r2 = r ∧ c2 < c) := by omega
              have hr2n : r2 < rows.length := by omega
              obtain ⟨a3, b3⟩ := h.at_ hr2n hc2L
              have lt := hb r2 c2 _ o3 a3
              obtain ⟨_, l2⟩ := ih r2 hr2 hr2n
              have l3 := l2.step hc2L
              rw [at_dl (L := L) ha2] at l3
              obtain ⟨hv', lv⟩ := ih _ lt b3
              have := h'.min (dl rows r2 c2) k hv' hk' fun w hw => (lv w hw).symm.trans (l3 w hw)
              omega
      rw [eq] at lk b'
      exact ⟨b', lk⟩
theorem Like.symm {L : Nat} {rows rows' : List (List Nat)} {ends ends' : List Nat} {s s' : Nat} (h : Like L rows ends rows' ends' s s') : Like L rows' ends' rows ends s' s := fun w hw => (h w hw).symm
theorem rise_ext {xs ys : List Nat} (hx : xs.Pairwise (· < ·)) (hy : ys.Pairwise (· < ·)) (e : ∀ a, a ∈ xs ↔ a ∈ ys) : xs = ys := by
  have p : xs.Perm ys := by
    refine (List.perm_ext_iff_of_nodup (hx.imp fun h => Nat.ne_of_lt h) (hy.imp fun h => Nat.ne_of_lt h)).mpr e
  exact p.eq_of_pairwise (fun a b _ _ h1 h2 => absurd h1 (by omega)) hx hy
theorem canon_uniq {L : Nat} {rows rows' : List (List Nat)} {ends ends' : List Nat} (h : Canon L rows ends) (h' : Canon L rows' ends') (e : ∀ w : List Nat, (∀ c ∈ w, c < L) → (runs rows 0 w ∈ ends ↔ runs rows' 0 w ∈ ends')) : rows = rows' ∧ ends = ends' := by
  have a := canon_half h h' e
  have b := canon_half h' h (Like.symm e)
  have len : rows.length = rows'.length := by
    have a1 := (a (rows.length - 1) (by have := h.one; omega)).1
    have b1 := (b (rows'.length - 1) (by have := h'.one; omega)).1
    omega
  refine ⟨List.ext_getElem? fun i => ?_, rise_ext h.rise h'.rise fun x => ?_⟩
  · by_cases hi : i < rows.length
    · have hi' : i < rows'.length := by omega
      rw [List.getElem?_eq_getElem hi, List.getElem?_eq_getElem hi']
      congr 1
      obtain ⟨l1, _⟩ := h.row _ (List.getElem_mem hi)
      obtain ⟨l2, _⟩ := h'.row _ (List.getElem_mem hi')
      refine List.ext_getElem? fun c => ?_
      by_cases hc : c < L
      · obtain ⟨x1, y1⟩ := h.at_ hi hc
        obtain ⟨x2, y2⟩ := h'.at_ hi' hc
        have lv := (a i hi).2.step hc
        obtain ⟨z1, z2⟩ := a _ y1
        have := h'.min (dl rows i c) (dl rows' i c) z1 y2 fun w hw => (z2 w hw).symm.trans (lv w hw)
        obtain ⟨r1, e1, q1⟩ := x1
        obtain ⟨r2, e2, q2⟩ := x2
        rw [List.getElem?_eq_getElem hi] at e1
        rw [List.getElem?_eq_getElem hi'] at e2
        cases e1
        cases e2
        rw [q1, q2, this]
      · rw [List.getElem?_eq_none (by omega), List.getElem?_eq_none (by omega)]
    · rw [List.getElem?_eq_none (by omega), List.getElem?_eq_none (by omega)]
  · constructor
    · intro hx
      exact ((a x (h.endl x hx)).2 [] (fun _ h => nomatch h)).mp hx
    · intro hx
      exact ((b x (h'.endl x hx)).2 [] (fun _ h => nomatch h)).mp hx
end LH

namespace LH
open PySem PySem.Spec PyProof.Rows L2
/-! ### what built tells is least, with just the words that are read from start on -/
section
variable {n0 L s0 : Nat} {R : Nat → List Nat} {fin : Nat → Bool} {M : Mach} {ks : List Nat} {tbl : List (List Nat)} {hl : List Nat}
theorem TabOk.atT {n : Nat} {rows : List (List Nat)} (k : TabOk n L rows) {s c : Nat} (hs : s < n) (hc : c < L) : AtT rows s c (dl rows s c) := by
  obtain ⟨r, e, g, l, _⟩ := k.at_ hs
  have hcl : c < r.length := by omega
  refine ⟨r, e, ?_⟩
  unfold dl
  rw [g, List.getD_eq_getElem?_getD, List.getElem?_eq_getElem hcl]
  rfl
theorem runs_lt {n : Nat} {rows : List (List Nat)} (k : TabOk n L rows) : ∀ (w : List Nat) (s : Nat), s < n → (∀ c ∈ w, c < L) → runs rows s w < n
  | [], _, h, _ => h
  | c :: w, s, h, hw => runs_lt k w _ (k.dl_lt h (hw c (List.mem_cons_self ..))) fun d hd => hw d (List.mem_cons_of_mem _ hd)
theorem mr_len : (mRows tbl hl).length = (headsOf hl hl.length).length := by
  unfold mRows
  rw [List.length_map]
theorem num_lt {s : Nat} (hs : s < hl.length) : numOf hl s < (mRows tbl hl).length := by
  obtain ⟨h, e, _⟩ := num_spec hs
  rw [mr_len]
  exact (List.getElem?_eq_some_iff.mp e).1
theorem num_zero (h0 : 0 < hl.length) : numOf hl 0 = 0 := by
  obtain ⟨h, e, le, _⟩ := num_spec h0
  have : h = 0 := by omega
  subst this
  have hm := List.mem_of_getElem? e
  -- 0 is the least head
  have r := heads_rise hl hl.length
  by_cases z : numOf hl 0 = 0
  · exact z
  · exfalso
    have hl' := (List.getElem?_eq_some_iff.mp e).1
    have h0' : 0 < (headsOf hl hl.length).length := by omega
    have := List.pairwise_iff_getElem.mp r 0 (numOf hl 0) h0' hl' (by omega)
    have e2 := (List.getElem?_eq_some_iff.mp e).2
    omega
theorem dl_num (k : TabOk ks.length L tbl) (hlen : hl.length = ks.length) (like : ∀ s t, s < ks.length → t < ks.length → (hl[s]? = hl[t]? ↔ Eqv tbl (ks.map fin) L s t)) {s c : Nat} (hs : s < ks.length) (hc : c < L) : dl (mRows tbl hl) (numOf hl s) c = numOf hl (dl tbl s c) ∧ AtT (mRows tbl hl) (numOf hl s) c (numOf hl (dl tbl s c)) := by
  obtain ⟨h, e, le, q⟩ := num_spec (hl := hl) (s := s) (by omega)
  have hh : h < ks.length := by omega
  have ev := (like h s hh hs).mp q
  have n1 : numOf hl (dl tbl h c) = numOf hl (dl tbl s c) := by
    have a := k.dl_lt hh hc
    have b := k.dl_lt hs hc
    exact (num_eq (by omega) (by omega)).mpr ((like _ _ a b).mpr (ev.step hc))
  obtain ⟨r, er, q2⟩ := k.atT hh hc
  have at_ : AtT (mRows tbl hl) (numOf hl s) c (numOf hl (dl tbl s c)) := by
    refine ⟨r.map (numOf hl), ?_, by rw [List.getElem?_map, q2, ← n1]; rfl⟩
    unfold mRows
    rw [List.getElem?_map, e]
    show some ((tbl.getD h []).map (numOf hl)) = _
    rw [List.getD_eq_getElem?_getD, er]
    rfl
  exact ⟨at_dl (L := L) at_, at_⟩
theorem runs_num (k : TabOk ks.length L tbl) (hlen : hl.length = ks.length) (like : ∀ s t, s < ks.length → t < ks.length → (hl[s]? = hl[t]? ↔ Eqv tbl (ks.map fin) L s t)) : ∀ (w : List Nat) (s : Nat), s < ks.length → (∀ c ∈ w, c < L) → runs (mRows tbl hl) (numOf hl s) w = numOf hl (runs tbl s w)
  | [], _, _, _ => rfl
  | c :: w, s, hs, hw => by
    have hc := hw c (List.mem_cons_self ..)
    show runs (mRows tbl hl) (dl (mRows tbl hl) (numOf hl s) c) w = numOf hl (runs tbl (dl tbl s c) w)
    rw [(dl_num k hlen like hs hc).1]
    exact runs_num k hlen like w _ (k.dl_lt hs hc) fun d hd => hw d (List.mem_cons_of_mem _ hd)
theorem ends_num (hlen : hl.length = ks.length) (like : ∀ s t, s < ks.length → t < ks.length → (hl[s]? = hl[t]? ↔ Eqv tbl (ks.map fin) L s t)) {s : Nat} (hs : s < ks.length) : numOf hl s ∈ mEnds (ks.map fin) hl ↔ (ks.map fin)[s]? = some true := by
  obtain ⟨h, e, le, q⟩ := num_spec (hl := hl) (s := s) (by omega)
  have ev := (like h s (by omega) hs).mp q
  have e0 : (ks.map fin)[h]? = (ks.map fin)[s]? := ev [] (fun _ h => nomatch h)
  unfold mEnds
  rw [List.mem_filter, List.mem_range, decide_eq_true_iff, List.getD_eq_getElem?_getD, e]
  show _ ∧ (ks.map fin)[h]? = some true ↔ _
  rw [e0]
  exact ⟨fun z => z.2, fun z => ⟨(List.getElem?_eq_some_iff.mp e).1, z⟩⟩
theorem head_back {k : Nat} (hk : k < (mRows tbl hl).length) : ∃ s, (headsOf hl hl.length)[k]? = some s ∧ s < hl.length ∧ numOf hl s = k := by
  rw [mr_len] at hk
  have e : (headsOf hl hl.length)[k]? = some (headsOf hl hl.length)[k] := List.getElem?_eq_getElem hk
  exact ⟨_, e, (heads_mem.mp (List.mem_of_getElem? e)).1, num_of_head e⟩
/-- heads rise with their numbers -/
theorem num_mono {s t : Nat} (hs : isHead hl s = true) (ht : isHead hl t = true) (hsl : s < hl.length) (htl : t < hl.length) : s < t ↔ numOf hl s < numOf hl t := by
  have a : s ∈ headsOf hl hl.length := heads_mem.mpr ⟨hsl, isHead_iff.mp hs⟩
  have b : t ∈ headsOf hl hl.length := heads_mem.mpr ⟨htl, isHead_iff.mp ht⟩
  obtain ⟨i, hi⟩ := List.mem_iff_getElem?.mp a
  obtain ⟨j, hj⟩ := List.mem_iff_getElem?.mp b
  have ei := num_of_head hi
  have ej := num_of_head hj
  rw [ei, ej]
  have r := heads_rise hl hl.length
  obtain ⟨li, gi⟩ := List.getElem?_eq_some_iff.mp hi
  obtain ⟨lj, gj⟩ := List.getElem?_eq_some_iff.mp hj
  constructor
  · intro z
    rcases Nat.lt_trichotomy i j with y | y | y
    · exact y
    · subst y
      rw [gi] at gj
      omega
    · have := List.pairwise_iff_getElem.mp r j i lj li y
      omega
  · intro z
    have := List.pairwise_iff_getElem.mp r i j li lj z
    omega
theorem num_le_of {s t : Nat} (hs : s < hl.length) (ht : t < hl.length) (hh : isHead hl s = true) (h : numOf hl s ≤ numOf hl t) : s ≤ t := by
  obtain ⟨h', e, le, q⟩ := num_spec ht
  have hm := List.mem_of_getElem? e
  have hh' : isHead hl h' = true := isHead_iff.mpr (heads_mem.mp hm).2
  have nh : numOf hl h' = numOf hl t := num_of_head e
  have hl' := (heads_mem.mp hm).1
  by_cases z : s ≤ h'
  · omega
  · have := (num_mono hh' hh hl' hs).mp (by omega)
    omega
theorem BuiltOk.canon (b : BuiltOk n0 L R s0 fin M ks tbl hl) (k : TabOk ks.length L tbl) : Canon L M.rows M.ends := by
  have hlen := b.hlen
  have like := b.like
  rw [b.rows, b.ends]
  have h0 : 0 < hl.length := by
    rw [hlen]
    exact k.one
  have up : ∀ {k' : Nat}, k' < (mRows tbl hl).length → ∃ s, (headsOf hl hl.length)[k']? = some s ∧ s < ks.length ∧ numOf hl s = k' ∧ isHead hl s = true := fun {k'} hk => by
    obtain ⟨s, e, l, q⟩ := head_back hk
    exact ⟨s, e, by omega, q, isHead_iff.mpr (heads_mem.mp (List.mem_of_getElem? e)).2⟩
  refine ⟨by have := num_lt (tbl := tbl) h0; omega, fun r hr => ?_, fun e he => ?_, ?_, fun kk h1 h2 => ?_, fun s t hs ht hw => ?_⟩
  · obtain ⟨i, hi⟩ := List.mem_iff_getElem?.mp hr
    have hil := (List.getElem?_eq_some_iff.mp hi).1
    obtain ⟨s, e, ls, _, _⟩ := up hil
    obtain ⟨row, er, eg, lr, lt⟩ := k.at_ ls
    unfold mRows at hi
    rw [List.getElem?_map, e] at hi
    have hi : some ((tbl.getD s []).map (numOf hl)) = some r := hi
    rw [eg] at hi
    cases hi
    refine ⟨by rw [List.length_map]; exact lr, fun t ht => ?_⟩
    obtain ⟨u, hu, rfl⟩ := List.mem_map.mp ht
    have := lt u hu
    exact num_lt (by omega)
  · unfold mEnds at he
    rw [mr_len]
    exact List.mem_range.mp (List.mem_filter.mp he).1
  · unfold mEnds
    exact List.Pairwise.filter _ List.pairwise_lt_range
  · -- the first place with a number of kk or more is kk's
    obtain ⟨s, es, ls, ns, hs⟩ := up h2
    have hs1 : 1 ≤ s := by
      by_cases z : s = 0
      · subst z
        rw [num_zero h0] at ns
        omega
      · omega
    obtain ⟨r, c, hrs, ha, hb⟩ := b.wi.bfs s hs1 ls
    have hrl : r < ks.length := by omega
    have hcL : c < L := by
      obtain ⟨row, er, q⟩ := ha
      have := b.full row (List.mem_of_getElem? er)
      rw [← this]
      exact (List.getElem?_eq_some_iff.mp q).1
    obtain ⟨r0, er0, ler0, qr0⟩ := num_spec (hl := hl) (s := r) (by omega)
    have hr0m := List.mem_of_getElem? er0
    have hr0h : isHead hl r0 = true := isHead_iff.mpr (heads_mem.mp hr0m).2
    have nr0 : numOf hl r0 = numOf hl r := num_of_head er0
    have ad := (dl_num (fin := fin) k hlen like hrl hcL).2
    rw [at_dl (L := L) ha, ns] at ad
    refine ⟨numOf hl r, c, ?_, ad, fun r' c' v lt a' => ?_⟩
    · rw [← ns, ← nr0]
      exact (num_mono hr0h hs (by omega) (by omega)).mp (by omega)
    · -- an earlier place: its head's row stands earlier in the table
      have hr'l : r' < (mRows tbl hl).length := by
        obtain ⟨row, er, _⟩ := a'
        exact (List.getElem?_eq_some_iff.mp er).1
      obtain ⟨x, ex, lx, nx, hx⟩ := up hr'l
      have hc'L : c' < L := by
        obtain ⟨row, er, q⟩ := a'
        unfold mRows at er
        rw [List.getElem?_map, ex] at er
        have er : some ((tbl.getD x []).map (numOf hl)) = some row := er
        obtain ⟨rx, erx, egx, lrx, _⟩ := k.at_ lx
        rw [egx] at er
        cases er
        have := (List.getElem?_eq_some_iff.mp q).1
        rw [List.length_map] at this
        omega
      have dx := (dl_num (fin := fin) k hlen like lx hc'L).1
      rw [nx, at_dl (L := L) a'] at dx
      have ax := k.atT lx hc'L
      have xr : x < r ∨ (x = r ∧ c' < c) ∨ (x = r0 ∧ r0 < r ∧ c' < c) := by
        rcases lt with lt | ⟨l1, l2⟩
        · left
          have : x < r0 := (num_mono hx hr0h (by omega) (by omega)).mpr (by rw [nx, nr0]; exact lt)
          omega
        · have : x = r0 := head_uniq (List.mem_of_getElem? ex) hr0m (by
            have e1 : numOf hl x = numOf hl r0 := by rw [nx, l1, nr0]
            exact (num_eq (by omega) (by omega)).mp e1)
          subst this
          by_cases z : x = r
          · exact .inr (.inl ⟨z, l2⟩)
          · exact .inl (by omega)
      have small : dl tbl x c' < s := by
        rcases xr with y | y | y
        · exact hb x c' _ (.inl y) ax
        · exact hb x c' _ (.inr y) ax
        · exact hb x c' _ (.inl (by omega)) ax
      rw [dx, ← ns]
      have hdl := k.dl_lt lx hc'L
      by_cases z : numOf hl (dl tbl x c') < numOf hl s
      · exact z
      · have := num_le_of (hl := hl) (s := s) (t := dl tbl x c') (by omega) (by omega) hs (by omega)
        omega
  · obtain ⟨x, _, lx, nx, _⟩ := up hs
    obtain ⟨y, _, ly, ny, _⟩ := up ht
    rw [← nx, ← ny]
    refine (num_eq (by omega) (by omega)).mpr ((like x y lx ly).mpr fun w hw' => ?_)
    have := hw w hw'
    rw [← nx, ← ny, runs_num (fin := fin) k hlen like w x lx hw', runs_num (fin := fin) k hlen like w y ly hw', ends_num hlen like (runs_lt k w x lx hw'), ends_num hlen like (runs_lt k w y ly hw')] at this
    have l1 := runs_lt k w x lx hw'
    have l2 := runs_lt k w y ly hw'
    rw [List.getElem?_map, List.getElem?_map, List.getElem?_eq_getElem l1, List.getElem?_eq_getElem l2] at this ⊢
    simp only [Option.map_some, Option.some.injEq] at this ⊢
    exact Bool.eq_iff_iff.mpr this
/-- the words: read from s0 on -/
def runR (R : Nat → List Nat) (s : Nat) (w : List Nat) : Nat := w.foldl (fun s c => (R s).getD c 0) s
theorem ks_runs (b : BuiltOk n0 L R s0 fin M ks tbl hl) (k : TabOk ks.length L tbl) : ∀ (w : List Nat) (j s : Nat), ks[j]? = some s → (∀ c ∈ w, c < L) → ks[runs tbl j w]? = some (runR R s w)
  | [], _, _, h, _ => h
  | c :: w, j, s, h, hw => by
    have hc := hw c (List.mem_cons_self ..)
    have hj := (List.getElem?_eq_some_iff.mp h).1
    obtain ⟨row, er, q⟩ := k.atT hj hc
    obtain ⟨_, z⟩ := b.wi.row j s row h er
    obtain ⟨t, y1, y2⟩ := z c _ q
    have e1 : (R s).getD c 0 = t := by
      rw [List.getD_eq_getElem?_getD, y1]
      rfl
    show ks[runs tbl (dl tbl j c) w]? = some (runR R ((R s).getD c 0) w)
    rw [e1]
    exact ks_runs b k w _ t y2 fun d hd => hw d (List.mem_cons_of_mem _ hd)
theorem BuiltOk.words (b : BuiltOk n0 L R s0 fin M ks tbl hl) (k : TabOk ks.length L tbl) (w : List Nat) (hw : ∀ c ∈ w, c < L) : runs M.rows 0 w ∈ M.ends ↔ fin (runR R s0 w) = true := by
  have h0 : 0 < hl.length := by
    rw [b.hlen]
    exact k.one
  rw [b.rows, b.ends]
  have e : runs (mRows tbl hl) 0 w = numOf hl (runs tbl 0 w) := by
    have := runs_num (fin := fin) k b.hlen b.like w 0 k.one hw
    rw [num_zero h0] at this
    exact this
  rw [e, ends_num b.hlen b.like (runs_lt k w 0 k.one hw), List.getElem?_map, ks_runs b k w 0 s0 b.wi.one hw]
  simp
end
end LH

namespace LH
open PySem PySem.Spec PyProof.Rows L2 NdefX LamX LU
/-! ### a walk over keys that are any data -/
theorem nvsS {H : Hp} : ∀ {ks : List NestedKey} {vs : List V} {k : NestedKey} {v : V}, NVs H ks vs → NV H k v → NVs H (ks ++ [k]) (vs ++ [v])
  | _, _, _, _, .nil, n => .cons n .nil
  | _, _, _, _, .cons a t, n => .cons a (nvsS t n)
theorem nvsL {H : Hp} : ∀ {ks : List NestedKey} {vs : List V}, NVs H ks vs → vs.length = ks.length
  | _, _, .nil => rfl
  | _, _, .cons _ t => congrArg (· + 1) (nvsL t)
theorem nvsA {H : Hp} : ∀ {ks : List NestedKey} {vs : List V}, NVs H ks vs → ∀ {i : Nat} {k : NestedKey}, ks[i]? = some k → ∃ v, vs[i]? = some v ∧ NV H k v
  | _, _, .nil, i, k, e => by simp at e
  | _, _, .cons h t, 0, k, e => by
    cases e
    exact ⟨_, rfl, h⟩
  | _, _, .cons h t, i + 1, k, e => by
    obtain ⟨v, h1, h2⟩ := nvsA t (i := i) (k := k) (by simpa using e)
    exact ⟨v, by simpa using h1, h2⟩
abbrev nU (U : Nat → NestedKey) (ks : List Nat) : List (NestedKey × V) := ks.zipIdx.map fun (p : Nat × Nat) => (U p.1, V.int (p.2 : Int))
theorem nU_snoc (U : Nat → NestedKey) (ks : List Nat) (t : Nat) : nU U (ks ++ [t]) = nU U ks ++ [(U t, V.int (ks.length : Int))] := by
  show List.map _ (ks ++ [t]).zipIdx = _
  rw [List.zipIdx_append, List.map_append]
  simp
theorem valV_nUU (U : Nat → NestedKey) (x : Nat) : ∀ (ks : List Nat) (k : Nat), (∀ y ∈ ks, U y = U x → y = x) → valV ((ks.zipIdx k).map fun (p : Nat × Nat) => (U p.1, V.int (p.2 : Int))) (U x) = if x ∈ ks then some (.int ((k + ks.idxOf x : Nat) : Int)) else none
  | [], _, _ => rfl
  | h :: r, k, inj => by
    rw [List.zipIdx_cons, List.map_cons, List.idxOf_cons]
    by_cases q : h = x
    · subst q
      rw [valV_pos rfl, if_pos (List.mem_cons_self ..)]
      simp
    · have ne : ¬ (((h, k) : Nat × Nat) |> fun p => (U p.1, V.int (p.2 : Int))).1 = U x := fun z => q (inj h (List.mem_cons_self ..) z)
      rw [valV_neg ne, valV_nUU U x r (k + 1) fun y hy => inj y (List.mem_cons_of_mem _ hy), show (h == x) = false from beq_eq_false_iff_ne.mpr q]
      have : (x ∈ h :: r) ↔ x ∈ r := ⟨fun z => (List.mem_cons.mp z).elim (fun y => absurd y.symm q) id, List.mem_cons_of_mem _⟩
      by_cases e : x ∈ r
      · rw [if_pos e, if_pos (this.mpr e)]
        show some (V.int ((k + 1 + r.idxOf x : Nat) : Int)) = some (V.int ((k + (r.idxOf x + 1) : Nat) : Int))
        congr 2
        omega
      · rw [if_neg e, if_neg (fun z => e (this.mp z))]
theorem valV_nU (U : Nat → NestedKey) (x : Nat) (ks : List Nat) (inj : ∀ y ∈ ks, U y = U x → y = x) : valV (nU U ks) (U x) = if x ∈ ks then some (.int ((ks.idxOf x : Nat) : Int)) else none := by
  have := valV_nUU U x ks 0 inj
  rw [Nat.zero_add] at this
  exact this
theorem nU_len (U : Nat → NestedKey) (ks : List Nat) : (nU U ks).length = ks.length := by
  show (List.map _ _).length = _
  rw [List.length_map, List.length_zipIdx]
theorem same_freeU {H H' : Hp} {p : Addr} (h : H p = none) (e : ∀ b, b ≠ p → H' b = H b) : Same H H' := fun b o q => by
  rw [e b (ne_of_none q h)]
  exact q
section
variable {P : Program} {w : World} {K : PySem.W.Frag} {mg : Str → Option Value} {base : Heap}
def sp_walkedU (P : Program) (w : World) (K : PySem.W.Frag) (mg : Str → Option Value) (base : Heap) : Sp := fun vs H Q _ => ∃ (v0 : V) (f : Addr) (F : NF) (spf : Sp) (U : Nat → NestedKey) (s0 n0 L : Nat) (R : Nat → List Nat), vs = [v0, .ref f] ∧ NV H (U s0) v0 ∧ H f = some (FnO f F) ∧ Callable P w K mg base 4 f spf ∧ s0 < n0 ∧ n0 ≤ 1000000 ∧ L ≤ 5 ∧ (∀ s, s < n0 → (U s).depth ≤ 8) ∧ (∀ s t, s < n0 → t < n0 → U s = U t → s = t) ∧ (∀ s, s < n0 → (R s).length = L ∧ ∀ t ∈ R s, t < n0) ∧
  (∀ (s : Nat) (v : V) (H' : Hp) (Q' : VK), s < n0 → Same H H' → NV H' (U s) v → (∀ H'' b us, Same H' H'' → H' b = none → H'' b = some (.lst us) → NVs H'' ((R s).map U) us → Q' (.ref b) H'') → spf [v] H' Q' E0) ∧
  ∀ H' p ka tb kvs ras ks tbl, Same H H' → H' p = some (.tup [.ref ka, .ref tb]) → H' ka = some (.lst kvs) → NVs H' (ks.map U) kvs → LolAt H' tb ras tbl → WI n0 L R s0 ks tbl → tbl.length = ks.length → (∀ r ∈ tbl, r.length = L) → Q (.ref p) H'
theorem ok_walkedU (T : TX K mg) : FnOk P w K mg base CX0 5 T.a_walked T.fd_walked ["start", "follow"] (sp_walkedU P w K mg base) := by
  refine T.F_walked.ok sc_walked (fun vs H Q E h => ?_) (fun cdv A outer s H vs Q E hr h => ?_)
  · obtain ⟨v0, f, F, spf, U, s0, n0, L, R, rfl, _⟩ := h
    rfl
  · obtain ⟨v0, f, F, spf, U, s0, n0, L, R, rfl, hp0, hf, ca, h0, hbig, hL, hdep, hinj, hR, hsp, q⟩ := h
    refine ⟨_, (pss_cons (ps_set (i := 2) sc_walked.nd rfl (Or.inl rfl) (LU.pe_udisp rfl hr.units (pv 0) pe_int))
      (pss_cons (ps_set (i := 3) sc_walked.nd rfl (Or.inl rfl) (pe_lst (pa_cons (pv 0) pa_nil)))
      (pss_cons (ps_set (i := 4) sc_walked.nd rfl (Or.inl rfl) (pe_lst pa_nil))
      (pss_cons (ps_while PassesOwn.never (pt_cmpR op_lt (pe_callB (call_lenK K rfl) (by rfl) T.m_len (by decide +kernel) (pa_cons (pv 4) pa_nil)) (pe_callB (call_lenK K rfl) (by rfl) T.m_len (by decide +kernel) (pa_cons (pv 3) pa_nil)) (nomark _))
        (pss_cons (ps_set (i := 5) sc_walked.nd rfl (Or.inl rfl) (pe_lst pa_nil))
          (pss_cons (ps_set (i := 6) sc_walked.nd rfl (Or.inl rfl) (pe_callV (k := 4) (i := 1) P w K mg base rfl rfl rfl rfl rfl (hr.mono (by decide)) rfl (by first | exact Or.inl rfl | exact Or.inr (Or.inl rfl) | exact Or.inr (Or.inr rfl)) (pa_cons (pe_ix (ix_listK K rfl) (pv 3) (pe_callB (call_lenK K rfl) (by rfl) T.m_len (by decide +kernel) (pa_cons (pv 4) pa_nil)) (fun _ _ => rfl)) pa_nil)))
          (pss_cons (ps_for PassesOwn.never rfl (pi_listK K rfl (pv 6)) (pg_name (i := 7) sc_walked.nd rfl (Or.inl rfl))
            (C8.pss_cut (ps_if (pt_cmp (LU.pc_unotin rfl hr.units (pv 7) (pv 2)))
                (pss_cons (LU.ps_uput rfl hr.units (pv 2) (pv 7) (pe_callB (call_lenK K rfl) (by rfl) T.m_len (by decide +kernel) (pa_cons (pv 3) pa_nil)) rfl)
                  (pss_one (ps_expr (pe_bmK K rfl PySem.F.plainAttrs_list PySem.F.slot_list_append PySem.F.type_list_append mt_append (pv 3) (pa_cons (pv 7) pa_nil)))))
                pss_nil)
              (pss_one (ps_expr (pe_bmK K rfl PySem.F.plainAttrs_list PySem.F.slot_list_append PySem.F.type_list_append mt_append (pv 5) (pa_cons (LU.pe_uget rfl hr.units (pv 2) (pv 7) (fun _ _ => rfl)) pa_nil))))))
          (pss_one (ps_expr (pe_bmK K rfl PySem.F.plainAttrs_list PySem.F.slot_list_append PySem.F.type_list_append mt_append (pv 4) (pa_cons (pv 5) pa_nil))))))))
      (pss_one (ps_ret (pe_tup (pa_cons (pv 3) (pa_cons (pv 4) pa_nil))))))))), ?_⟩
    have sl : ∀ m, m ≤ 1000000 → m < sizeLine := fun m hm => Nat.lt_of_le_of_lt hm (by decide)
    -- numbers, keys, table
    refine fun nm nnm H0 u0 r0 => ⟨v0, rfl, u0, U s0, hp0.mono (Tups.same (same_freeU nnm r0)), hdep s0 h0, fun H1 pu => ?_⟩
    have r1 : ∀ b, b ≠ nm → H1 b = H b := fun b hb => (pu.2 b hb).trans (r0 b hb)
    have sA : Same H H1 := same_freeU nnm r1
    have u1 : UAt w H1 nm (nU U [s0]) := pu.1
    refine ⟨v0, rfl, by show 1 ≤ sizeLine; decide, fun ka nka => ⟨by show 0 ≤ sizeLine; decide, fun ta nta => ?_⟩⟩
    have d1 : nm ≠ ka := u1.ne_none nka
    have u2 := u1.same (same_new (o := .lst [v0]) nka)
    have d2 : nm ≠ ta := u2.ne_none nta
    have d3 : ka ≠ ta := ne_of_none upd_same nta
    have fka : H ka = none := sA.free nka
    have sm0 : Same H (upd H1 ka (.lst [v0])) := sA.trans (same_new nka)
    have fta : H ta = none := sm0.free nta
    -- while
    refine ⟨fun m σ H' => ∃ (ks : List Nat) (kvs : List V) (tbl : List (List Nat)) (ras : List Addr) (y5 y6 y7 : Option V), m + tbl.length = n0 + 1 ∧ σ = [some v0, some (.ref f), some (.ref nm), some (.ref ka), some (.ref ta), y5, y6, y7] ∧ Same H H' ∧ UAt w H' nm (nU U ks) ∧ H' ka = some (.lst kvs) ∧ NVs H' (ks.map U) kvs ∧ LolAt H' ta ras tbl ∧ WI n0 L R s0 ks tbl ∧ (∀ r ∈ tbl, r.length = L) ∧ (∀ a ∈ ras, H a = none ∧ a ≠ ta ∧ a ≠ ka),
      ⟨n0 + 1, [s0], [v0], [], [], none, none, none, rfl, rfl, sm0.trans (same_new nta), u2.same (same_new nta), same_new nta _ _ upd_same, .cons (hp0.mono (Tups.same (sm0.trans (same_new nta)))) .nil, ⟨upd_same, rfl, fun i b w x => by simp at x⟩, WI.start h0, (fun _ h => nomatch h), fun _ h => nomatch h⟩, fun m σ H1 hW => ?_⟩
    obtain ⟨ks, kvs, tbl, ras, y5, y6, y7, hm, rfl, sm1, en, ek1, pk1, ht1, wi, full, fr⟩ := hW
    have hmany := wi.many
    have hrl : ras.length = tbl.length := ht1.2.1
    have hkl : kvs.length = ks.length := by rw [nvsL pk1, List.length_map]
    refine ⟨.ref ta, rfl, ta, _, rfl, .inl (.inl (.inl ht1.1)), .ref ka, rfl, ka, _, rfl, .inl (.inl (.inl ek1)), _, _, rfl, rfl, _, rfl, ite2 (fun z => ?_) (fun z => ?_)⟩
    · have hlt : tbl.length < ks.length := by
        have := of_decide_eq_true z
        rw [List.length_map, hrl, hkl] at this
        omega
      refine ⟨fun σ' H' => ∃ (ks : List Nat) (kvs : List V) (row : List Nat) (ras' : List Addr) (y5 y6 y7 : Option V), σ' = [some v0, some (.ref f), some (.ref nm), some (.ref ka), some (.ref ta), y5, y6, y7] ∧ Same H H' ∧ UAt w H' nm (nU U ks) ∧ H' ka = some (.lst kvs) ∧ NVs H' (ks.map U) kvs ∧ LolAt H' ta ras' (tbl ++ [row]) ∧ WI n0 L R s0 ks (tbl ++ [row]) ∧ row.length = L ∧ (∀ a ∈ ras', H a = none ∧ a ≠ ta ∧ a ≠ ka), fun σ' H' hN => ?_, ?_⟩
      · obtain ⟨ks', kvs', row, ras', y5, y6, y7, r1, r2, r3, r4, r4', r5, r6, r7, r8⟩ := hN
        have := r6.le
        have hm' := r6.many
        rw [List.length_append] at this
        have this : tbl.length + 1 ≤ ks'.length := this
        refine ⟨m - 1, by omega, ks', kvs', tbl ++ [row], ras', y5, y6, y7, ?_, r1, r2, r3, r4, r4', r5, r6, mem_snoc full r7, r8⟩
        rw [List.length_append]
        show m - 1 + (tbl.length + 1) = n0 + 1
        omega
      -- row = []
      refine ⟨by show 0 ≤ sizeLine; decide, fun ra nra => ?_⟩
      have sm2 : Same H (upd H1 ra (.lst [])) := sm1.trans (same_new nra)
      have s2 : Same H1 (upd H1 ra (.lst [])) := same_new nra
      have era : (upd H1 ra (.lst [])) ra = some (.lst (vi [])) := upd_same
      have fra : H ra = none := sm1.free nra
      have ra1 : nm ≠ ra := en.ne_none nra
      have ra2 : ka ≠ ra := ne_of_none ek1 nra
      have ra3 : ta ≠ ra := ne_of_none ht1.1 nra
      have ra4 : ∀ a ∈ ras, a ≠ ra := fun a ha e => by
        obtain ⟨i, hi⟩ := List.mem_iff_getElem?.mp ha
        have hil : i < tbl.length := by
          rw [← hrl]
          exact (List.getElem?_eq_some_iff.mp hi).1
        have := ht1.2.2 i a _ hi (List.getElem?_eq_getElem hil)
        exact ne_of_none this nra e
      have en2 := en.same s2
      have ek2 := s2 _ _ ek1
      have pk2 := pk1.mono (Tups.same s2)
      have ht2 := ht1.same s2
      generalize upd H1 ra (.lst []) = H2 at sm2 s2 era en2 ek2 pk2 ht2
      have hks : ks[tbl.length]? = some ks[tbl.length] := List.getElem?_eq_getElem hlt
      generalize ks[tbl.length] = sx at hks
      have hsx : sx < n0 := wi.lt sx (List.mem_of_getElem? hks)
      obtain ⟨hRl, hRt⟩ := hR sx hsx
      obtain ⟨vx, hvk, hpx⟩ := nvsA pk2 (i := tbl.length) (k := U sx) (by rw [List.getElem?_map, hks]; rfl)
      rw [← hrl] at hvk
      -- behind = follow(keys[len(table)])
      refine ⟨f, F, spf, rfl, sm2 _ _ hf, ca, .ref ka, rfl, .ref ta, rfl, ta, _, rfl, .inl (.inl (.inl ht2.1)), ka, _, _, vx, rfl, rfl, .inl (.inl ek2), ?_, sm2 _ _ hf, hsp sx vx H2 _ hsx sm2 hpx fun H3 pb us s3 npb eb pbs => ?_⟩
      · rw [List.length_map]
        exact atI_nat hvk
      have wi0 := wi.open_ hlt
      have b1 : nm ≠ pb := en2.ne_none npb
      have b2 : ka ≠ pb := ne_of_none ek2 npb
      have b3 : ra ≠ pb := ne_of_none era npb
      have hbl : us.length = L := by rw [nvsL pbs, List.length_map, hRl]
      -- for key in behind
      refine ⟨.ref pb, rfl, pb, rfl, ⟨_, .inl (.inl eb)⟩, ?_⟩
      refine for_it (walk_list (K := K) (a := pb) (xs := us)) (fun c σ H' => (∃ ks kvs cur, Same H H' ∧ UAt w H' nm (nU U ks) ∧ H' ka = some (.lst kvs) ∧ NVs H' (ks.map U) kvs ∧ LolAt H' ta ras tbl ∧ H' ra = some (.lst (vi cur)) ∧ H' pb = some (.lst us) ∧ NVs H' ((R sx).map U) us ∧ cur.length = c ∧ ks[tbl.length]? = some sx ∧ WI n0 L R s0 ks (tbl ++ [cur])) ∧ ∃ y7, σ = [some v0, some (.ref f), some (.ref nm), some (.ref ka), some (.ref ta), some (.ref ra), some (.ref pb), y7]) ⟨⟨ks, kvs, [], sm2.trans s3, en2.same s3, s3 _ _ ek2, pk2.mono (Tups.same s3), ht2.same s3, s3 _ _ era, eb, pbs, rfl, hks, wi0⟩, y7, rfl⟩ (fun c σ H' _ hW => ?_) (fun c x σ H4 H4' hc hW hY => ?_) (fun σ H4 hW => ?_)
      · obtain ⟨⟨_, _, _, _, _, _, _, _, _, z, _⟩, _⟩ := hW
        exact .inl (.inl z)
      · obtain ⟨⟨ks, kvs, cur, sm4, en4, ek4, pk4, ht4, er4, eb4, pb4, lc, hk4, wi4⟩, y7, rfl⟩ := hW
        obtain ⟨rfl, hx⟩ := hY
        have hcl : c < (R sx).length := by
          have := (List.getElem?_eq_some_iff.mp hx).1
          rw [hRl, ← hbl]
          exact this
        have ht : (R sx)[c]? = some (R sx)[c] := List.getElem?_eq_getElem hcl
        generalize (R sx)[c] = t at ht
        obtain ⟨x', hx', nx⟩ := nvsA pb4 (i := c) (k := U t) (by rw [List.getElem?_map, ht]; rfl)
        obtain rfl : x' = x := Option.some.inj (hx'.symm.trans hx)
        have htn := hRt t (List.mem_of_getElem? ht)
        have hdt := hdep t htn
        have hm4 := wi4.many
        have hkl4 : kvs.length = ks.length := by rw [nvsL pk4, List.length_map]
        have inj : ∀ {ks' : List Nat}, (∀ y ∈ ks', y < n0) → ∀ y ∈ ks', U y = U t → y = t := fun hl y hy e => hinj y t (hl y hy) htn e
        have nlol : ∀ {H5 : Hp}, (∀ b, b ≠ nm → b ≠ ka → b ≠ ra → H5 b = H4' b) → LolAt H5 ta ras tbl := fun {H5} hh => by
          refine ⟨by rw [hh ta (Ne.symm d2) (Ne.symm d3) ra3]; exact ht4.1, ht4.2.1, fun i b w' x' y' => ?_⟩
          have z := ht4.2.2 i b w' x' y'
          rw [hh b (en4.ne z (fun φ q => by cases q)).symm (fr b (List.mem_of_getElem? x')).2.2 (ra4 b (List.mem_of_getElem? x'))]
          exact z
        refine ⟨fun σ' H' => ∃ ks' kvs', (ks' = ks ∨ (ks' = ks ++ [t] ∧ t ∉ ks)) ∧ t ∈ ks' ∧ (∀ y ∈ ks', y < n0) ∧ σ' = [some v0, some (.ref f), some (.ref nm), some (.ref ka), some (.ref ta), some (.ref ra), some (.ref pb), some x'] ∧ Same H H' ∧ UAt w H' nm (nU U ks') ∧ H' ka = some (.lst kvs') ∧ NVs H' (ks'.map U) kvs' ∧ Tups H4' H' ∧ (∀ b, b ≠ nm → b ≠ ka → H' b = H4' b), ?_, fun σ' H' hM => ?_⟩
        · refine ⟨x', rfl, .ref nm, rfl, nm, _, U t, rfl, en4, nx, hdt, _, rfl, ?_⟩
          rw [valV_nU U t ks (inj wi4.lt)]
          by_cases hin : t ∈ ks
          · rw [if_pos hin]
            refine iteF ?_
            exact ⟨ks, kvs, .inl rfl, hin, wi4.lt, rfl, sm4, en4, ek4, pk4, Tups.refl _, fun _ _ _ => rfl⟩
          · rw [if_neg hin]
            refine iteT ?_
            have ep : putK (nU U ks) (U t) (V.int (kvs.length : Int)) = nU U (ks ++ [t]) := by
              rw [putK_new, nU_snoc, hkl4]
              rw [valV_nU U t ks (inj wi4.lt), if_neg hin]
            refine ⟨.ref ka, rfl, ka, _, rfl, .inl (.inl (.inl ek4)), .ref nm, rfl, x', rfl, nm, _, U t, rfl, en4, nx, hdt, by rw [nU_len]; exact sl _ (by omega), fun H5 p5 => ?_⟩
            rw [ep] at p5
            have t5 : Tups H4' H5 := UPut.tups en4 p5
            have ek5 : H5 ka = some (.lst kvs) := by
              rw [p5.2 ka (Ne.symm d1)]
              exact ek4
            have pk5 : NVs H5 ((ks ++ [t]).map U) (kvs ++ [x']) := by
              rw [List.map_append]
              exact nvsS (pk4.mono t5) (nx.mono t5)
            refine ⟨.ref ka, rfl, .inl ⟨rfl, _, .inl (.inl ek5)⟩, x', rfl, ka, _, _, rfl, rfl, ek5, by rw [hkl4]; exact sl _ (by omega), ks ++ [t], kvs ++ [x'], .inr ⟨rfl, hin⟩, List.mem_append_right _ (List.mem_singleton.mpr rfl), mem_snoc wi4.lt htn, rfl, ?_, ?_, ?_, ?_, ?_, ?_⟩
            · intro b o e
              rw [upd_ne (ne_of_none e fka), p5.2 b (ne_of_none e nnm)]
              exact sm4 _ _ e
            · exact p5.1.mono (Tups.lst ek5) fun o e => by rw [upd_ne d1]; exact e
            · rw [upd_same]
            · exact pk5.mono (Tups.lst ek5)
            · exact t5.trans (Tups.lst ek5)
            · intro b h1 h2
              rw [upd_ne h2, p5.2 b h1]
        · obtain ⟨ks', kvs', hk', htin, hlt', rfl, sm5, en5, ek5, pk5, t5, rest⟩ := hM
          have er5 : H' ra = some (.lst (vi cur)) := by
            rw [rest ra (Ne.symm ra1) (Ne.symm ra2)]
            exact er4
          have hvt : ks'[ks'.idxOf t]? = some t := by
            have := List.idxOf_lt_length_iff.mpr htin
            rw [List.getElem?_eq_getElem this, List.getElem_idxOf]
          have hk5 : ks'[tbl.length]? = some sx := by
            rcases hk' with rfl | ⟨rfl, _⟩
            · exact hk4
            · rw [List.getElem?_append_left (List.getElem?_eq_some_iff.mp hk4).1]
              exact hk4
          -- row.append(numbers[key])
          refine ⟨.ref ra, rfl, .inl ⟨rfl, _, .inl (.inl er5)⟩, .ref nm, rfl, x', rfl, nm, _, U t, .int (ks'.idxOf t : Nat), rfl, en5, nx.mono t5, hdt, ?_, ra, _, _, rfl, rfl, er5, by rw [List.length_map]; exact sl _ (by omega), ⟨ks', kvs', cur ++ [ks'.idxOf t], ?_, ?_, ?_, pk5.mono (Tups.lst er5), ?_, ?_, ?_, (pb4.mono t5).mono (Tups.lst er5), ?_, hk5, ?_⟩, _, rfl⟩
          · rw [valV_nU U t ks' (inj hlt'), if_pos htin]
          · intro b o e
            rw [upd_ne (ne_of_none e fra)]
            exact sm5 _ _ e
          · exact en5.mono (Tups.lst er5) fun o e => by rw [upd_ne ra1]; exact e
          · rw [upd_ne ra2]
            exact ek5
          · exact nlol fun b h1 h2 h3 => by
              rw [upd_ne h3]
              exact rest b h1 h2
          · rw [upd_same, vi_snoc]
          · rw [upd_ne (Ne.symm b3), rest pb (Ne.symm b1) (Ne.symm b2)]
            exact eb4
          · rw [List.length_append, lc]
            rfl
          · exact wi4.put hk4 (by rw [lc]; exact ht) htn (by omega) hvt hk'
      · obtain ⟨⟨ks, kvs, cur, sm4, en4, ek4, pk4, ht4, er4, eb4, pb4, lc, hk4, wi4⟩, y7, rfl⟩ := hW
        rw [hbl] at lc
        have nt : ∀ a ∈ ras, a ≠ ta := fun a ha => (fr a ha).2.1
        -- table.append(row)
        refine ⟨.ref ta, rfl, .inl ⟨rfl, _, .inl (.inl ht4.1)⟩, .ref ra, rfl, ta, _, _, rfl, rfl, ht4.1, by rw [List.length_map, hrl]; exact sl _ (by omega), ks, kvs, cur, ras ++ [ra], _, _, _, rfl, ?_, ?_, ?_, pk4.mono (Tups.lst ht4.1), ?_, wi4, lc, ?_⟩
        · intro b o e
          rw [upd_ne (ne_of_none e fta)]
          exact sm4 _ _ e
        · exact en4.mono (Tups.lst ht4.1) fun o e => by rw [upd_ne d2]; exact e
        · rw [upd_ne d3]
          exact ek4
        · rw [vr_snoc]
          exact lol_snoc ht4 er4 nt (Ne.symm ra3)
        · exact mem_snoc fr ⟨fra, Ne.symm ra3, Ne.symm ra2⟩
    · have hle := wi.le
      have hlen : tbl.length = ks.length := by
        have : ¬ (((vr ras).length : Nat) : Int) < (kvs.length : Nat) := fun y => z (decide_eq_true y)
        rw [List.length_map, hrl, hkl] at this
        omega
      refine ⟨.ref ka, rfl, .ref ta, rfl, by show 2 ≤ sizeLine; decide, fun p np => ?_⟩
      exact q _ p ka ta kvs ras ks tbl (sm1.trans (same_new np)) upd_same (same_new np _ _ ek1) (pk1.mono (Tups.same (same_new np))) (ht1.same (same_new np)) wi hlen full
end
end LH

namespace LH
open PySem PySem.Spec PyProof.Rows L2 NdefX LamX LU
section
variable {P : Program} {w : World} {K : PySem.W.Frag} {mg : Str → Option Value} {base : Heap}
def sp_builtU (P : Program) (w : World) (K : PySem.W.Frag) (mg : Str → Option Value) (base : Heap) : Sp := fun vs H Q _ => ∃ (z : Str) (v0 : V) (f g : Addr) (F G : NF) (spf spg : Sp) (U : Nat → NestedKey) (s0 n0 L : Nat) (R : Nat → List Nat) (fin : Nat → Bool), vs = [.str z, v0, .ref f, .ref g] ∧ NV H (U s0) v0 ∧ H f = some (FnO f F) ∧ Callable P w K mg base 4 f spf ∧ H g = some (FnO g G) ∧ Callable P w K mg base 4 g spg ∧
  s0 < n0 ∧ n0 ≤ 1000000 ∧ 1 ≤ L ∧ L ≤ 5 ∧ (∀ s, s < n0 → (U s).depth ≤ 8) ∧ (∀ s t, s < n0 → t < n0 → U s = U t → s = t) ∧ (∀ s, s < n0 → (R s).length = L ∧ ∀ t ∈ R s, t < n0) ∧
  (∀ (s : Nat) (v : V) (H' : Hp) (Q' : VK), s < n0 → Same H H' → NV H' (U s) v → (∀ H'' b us, Same H' H'' → H' b = none → H'' b = some (.lst us) → NVs H'' ((R s).map U) us → Q' (.ref b) H'') → spf [v] H' Q' E0) ∧
  (∀ (s : Nat) (v : V) (H' : Hp) (Q' : VK), s < n0 → Same H H' → NV H' (U s) v → (∀ H'', Same H' H'' → Q' (.bl (fin s)) H'') → spg [v] H' Q' E0) ∧
  ∀ H' p (M : Mach) ks tbl hl, Same H H' → MachAt H' p M → M.z = z → BuiltOk n0 L R s0 fin M ks tbl hl → Q (.ref p) H'
theorem ok_builtU (T : TX K mg) : FnOk P w K mg base CX0 6 T.a_built T.fd_built ["letters", "start", "follow", "is_end"] (sp_builtU P w K mg base) := by
  have G_walked : FnOk P w K mg base CX0 5 T.a_walked T.fd_walked ["start", "follow"] (sp_walkedU P w K mg base) := ok_walkedU T
  have G_parted : FnOk P w K mg base CX0 2 T.a_parted T.fd_parted ["table", "ended"] sp_parted := ok_parted T
  have G_merged : FnOk P w K mg base CX0 1 T.a_merged T.fd_merged ["letters", "table", "ended", "homes"] sp_merged := ok_merged T
  refine T.F_built.ok sc_built (fun vs H Q E h => ?_) (fun cdv A outer s H vs Q E hr h => ?_)
  · obtain ⟨z, v0, f, g, F, G, spf, spg, U, s0, n0, L, R, fin, rfl, _⟩ := h
    rfl
  · obtain ⟨z, v0, f, g, F, G, spf, spg, U, s0, n0, L, R, fin, rfl, hp0, hf, caf, hg, cag, h0, hbig, hL1, hL5, hdep, hinj, hR, hspf, hspg, q⟩ := h
    refine ⟨_, (pss_cons (ps_asg (pe_call G_walked (hr.mono (by decide)) (by rfl) T.g_walked T.F_walked.kp T.b_walked .nil pass0 (pa_cons (pv 1) (pa_cons (pv 2) pa_nil))) (pg_tupK (n := 2) K rfl (by rfl) (pgs_cons (pg_name (i := 4) sc_built.nd rfl (Or.inl rfl)) (pgs_cons (pg_name (i := 5) sc_built.nd rfl (Or.inl rfl)) pgs_nil))))
      (pss_cons (ps_setLc (i := 6) (own := [("key", 7)]) (g := gName 7) (tt := tYes) (by rfl) sc_built.nd rfl rfl (sw_true rfl rfl rfl (by decide +kernel)) (pi_listK K rfl (pv 4)) (blkOk_by (own := [("key", 7)]) (N := N_built) (by kernel_rfl)) (fun _ _ _ _ _ => (pg_name (i := 7) sc_built.nd rfl (by first | exact Or.inl rfl | exact Or.inr rfl))) (fun _ _ _ _ _ => pts_nil) (fun _ _ _ _ _ => (pe_callV (k := 4) (i := 3) P w K mg base rfl rfl rfl rfl rfl (hr.mono (by decide)) rfl (by first | exact Or.inl rfl | exact Or.inr (Or.inl rfl) | exact Or.inr (Or.inr rfl)) (pa_cons (pv 7) pa_nil))))
      (pss_one (ps_ret (pe_call G_merged (hr.mono (by decide)) (by rfl) T.g_merged T.F_merged.kp T.b_merged .nil pass0 (pa_cons (pv 0) (pa_cons (pv 5) (pa_cons (pv 6) (pa_cons (pe_call G_parted (hr.mono (by decide)) (by rfl) T.g_parted T.F_parted.kp T.b_parted .nil pass0 (pa_cons (pv 5) (pa_cons (pv 6) pa_nil))) pa_nil))))))))), ?_⟩
    -- keys, table = walked(start, follow)
    refine ⟨v0, rfl, .ref f, rfl, v0, f, F, spf, U, s0, n0, L, R, rfl, hp0, hf, caf, h0, hbig, hL5, hdep, hinj, hR, hspf, fun H1 p ka tb kvs ras ks tbl sm1 ep ek pk et wi len full => ?_⟩
    refine ⟨p, [.ref ka, .ref tb], rfl, .inl (.inl ep), rfl, .ref ka, [.ref tb], rfl, .ref tb, [], rfl, rfl, ?_⟩
    have tk := BuiltOk.tab wi len full hL1 hL5 hbig
    have hm := wi.many
    have hkl : kvs.length = ks.length := by rw [nvsL pk, List.length_map]
    -- ended
    refine ⟨.ref ka, rfl, ka, rfl, ⟨_, .inl (.inl ek)⟩, fun D nD => ?_⟩
    have fD : H D = none := sm1.free nD
    refine lc_it (walk_list (K := K) (a := ka) (xs := kvs)) (fun i H' => Same H1 H' ∧ H' D = some (.lst (((ks.take i).map fin).map V.bl))) ⟨same_new nD, upd_same⟩ (fun i H' _ hW => .inl (.inl (hW.1 _ _ ek))) (fun i x H2 H2' hi hW hY => ?_) (fun H2 hW => ?_)
    · obtain ⟨s2, e2⟩ := hW
      obtain ⟨rfl, hx⟩ := hY
      rw [hkl] at hi
      have ht : ks[i]? = some ks[i] := List.getElem?_eq_getElem hi
      generalize ks[i] = t at ht
      obtain ⟨x', hx', nx⟩ := nvsA pk (i := i) (k := U t) (by rw [List.getElem?_map, ht]; rfl)
      obtain rfl : x' = x := Option.some.inj (hx'.symm.trans hx)
      refine ⟨rfl, lcyes ?_⟩
      refine ⟨g, G, spg, rfl, s2 _ _ (sm1 _ _ hg), cag, x', rfl, s2 _ _ (sm1 _ _ hg), hspg t x' H2' _ (wi.lt t (List.mem_of_getElem? ht)) (sm1.trans s2) (nx.mono (Tups.same s2)) fun H3 s3 => ?_⟩
      refine ⟨_, s3 _ _ e2, ?_, fun b o eb => ?_, ?_⟩
      · rw [List.length_map, List.length_map, List.length_take]
        exact Nat.lt_of_le_of_lt (show _ ≤ 1000000 by omega) (by decide)
      · rw [upd_ne (ne_of_none eb nD)]
        exact s3 _ _ (s2 _ _ eb)
      · rw [upd_same, take_snoc ht, List.map_append, List.map_append]
        rfl
    · obtain ⟨s2, e2⟩ := hW
      have etk : ks.take kvs.length = ks := List.take_of_length_le (by rw [hkl]; exact Nat.le_refl _)
      rw [etk] at e2
      have lbs : (ks.map fin).length = ks.length := List.length_map ..
      -- merged(letters, table, ended, parted(table, ended))
      refine ⟨.str z, rfl, .ref tb, rfl, .ref D, rfl, .ref tb, rfl, .ref D, rfl, tb, D, ras, tbl, ks.map fin, ks.length, L, rfl, et.same s2, tk, e2, lbs, fun H3 ho hl s3 fho eho lhl like => ?_⟩
      refine ⟨z, tb, D, ho, ras, tbl, ks.map fin, hl, ks.length, L, rfl, (et.same s2).same s3, tk, s3 _ _ e2, lbs, eho, lhl, fun H4 p4 s4 mm => ?_⟩
      exact q H4 p4 _ ks tbl hl (((sm1.trans s2).trans s3).trans s4) mm rfl ⟨wi, len, full, lhl, like, rfl, rfl⟩
end
end LH

namespace LH
open PySem PySem.Spec PyProof.Rows L2 NdefX LamX
def marksOf (M : Mach) : List Bool := (List.range M.rows.length).map fun s => decide (s ∈ M.ends)
section
variable {P : Program} {w : World} {K : PySem.W.Frag} {mg : Str → Option Value} {base : Heap}
/-! ### end_marks -/
def sp_end_marks : Sp := fun vs H Q _ => ∃ (m : Addr) (M : Mach), vs = [.ref m] ∧ MachAt H m M ∧ M.Ok ∧ M.rows.length ≤ 1000000 ∧ ∀ H' p, Same H H' → H p = none → H' p = some (.lst ((marksOf M).map V.bl)) → Q (.ref p) H'
def marks_ (n : Nat) (es : List Nat) : List Bool := (List.range n).map fun s => decide (s ∈ es)
theorem marks_set {n : Nat} {es : List Nat} {e : Nat} (_ : e < n) : (marks_ n es).set e true = marks_ n (es ++ [e]) := by
  refine List.ext_getElem? fun i => ?_
  unfold marks_
  by_cases hi : i < n
  · rw [List.getElem?_set]
    simp only [List.getElem?_map, List.getElem?_range hi, List.length_map, List.length_range, Option.map_some, List.mem_append, List.mem_singleton]
    by_cases q : e = i
    · subst q
      simp [hi]
    · have q' : ¬ i = e := fun z => q z.symm
      simp [q, q']
  · rw [List.getElem?_eq_none (by simp; omega), List.getElem?_eq_none (by simp; omega)]
theorem ok_end_marks (T : TX K mg) : FnOk P w K mg base CX0 1 T.a_end_marks T.fd_end_marks ["machine"] sp_end_marks := by
  refine T.F_end_marks.ok sc_end_marks (fun vs H Q E h => ?_) (fun cdv A outer s H vs Q E hr h => ?_)
  · obtain ⟨m, M, rfl, _⟩ := h
    rfl
  · obtain ⟨m, M, rfl, ⟨t, e, as, h1, h2, h3, h4⟩, k, hb, q⟩ := h
    refine ⟨_, (pss_cons (ps_asg (pv 0) (pg_tupK (n := 3) K rfl (by rfl) (pgs_cons (pg_name (i := 1) sc_end_marks.nd rfl (Or.inl rfl)) (pgs_cons (pg_name (i := 2) sc_end_marks.nd rfl (Or.inl rfl)) (pgs_cons (pg_name (i := 3) sc_end_marks.nd rfl (Or.inl rfl)) pgs_nil)))))
      (pss_cons (ps_setLc (i := 4) (own := [("row", 6)]) (g := gName 6) (tt := tYes) (by rfl) sc_end_marks.nd rfl rfl (sw_true rfl rfl rfl (by decide +kernel)) (pi_tupK K rfl (pv 2)) (blkOk_by (own := [("row", 6)]) (N := N_end_marks) (by kernel_rfl)) (fun _ _ _ _ _ => (pg_name (i := 6) sc_end_marks.nd rfl (by first | exact Or.inl rfl | exact Or.inr rfl))) (fun _ _ _ _ _ => pts_nil) (fun _ _ _ _ _ => pe_bl))
      (pss_cons (ps_for PassesOwn.never rfl (pi_tupK K rfl (pv 3)) (pg_name (i := 5) sc_end_marks.nd rfl (Or.inl rfl))
        (pss_one (ps_asg pe_bl (pg_sub (pv 4) (pv 5) set_list))))
      (pss_one (ps_ret (pv 4)))))), ?_⟩
    refine ⟨.ref m, rfl, m, [.str M.z, .ref t, .ref e], rfl, .inl (.inl h1), rfl, .str M.z, _, rfl, .ref t, _, rfl, .ref e, [], rfl, rfl, ?_⟩
    refine ⟨.ref t, rfl, t, rfl, ⟨_, .inl (.inl h2)⟩, fun D nD => ?_⟩
    refine lc_it (walk_tup (K := K) (a := t) (xs := vr as)) (fun i H' => H' = upd H D (.lst ((List.replicate i false).map V.bl))) rfl (fun i H' _ hW => ?_) (fun i x H1 H1' hi hW hY => ?_) (fun H1 hW => ?_)
    · rw [hW]
      exact .inl (.inl (same_new nD _ _ h2))
    · obtain ⟨rfl, _⟩ := hY
      subst hW
      rw [List.length_map, h3.1] at hi
      refine ⟨rfl, lcyes ⟨_, upd_same, ?_, ?_⟩⟩
      · rw [List.length_map, List.length_replicate]
        exact Nat.lt_of_le_of_lt (show i ≤ 1000000 by omega) (by decide)
      · rw [upd_upd, List.replicate_succ', List.map_append]
        rfl
    · subst hW
      rw [List.length_map, h3.1]
      have e0 : List.replicate M.rows.length false = marks_ M.rows.length [] := by
        unfold marks_
        rw [List.map_congr_left (g := fun _ => false) (fun a _ => by simp), List.map_const', List.length_range]
      rw [e0]
      refine ⟨.ref e, rfl, e, rfl, ⟨_, .inl (.inl (same_new nD _ _ h4))⟩, ?_⟩
      refine for_it (walk_tup (K := K) (a := e) (xs := vi M.ends)) (fun i σ H' => (Same H H' ∧ H' D = some (.lst ((marks_ M.rows.length (M.ends.take i)).map V.bl))) ∧ ∃ y5, σ = [some (.ref m), some (.str M.z), some (.ref t), some (.ref e), some (.ref D), y5, none]) ⟨⟨same_new nD, upd_same⟩, none, rfl⟩ (fun i σ H' _ hW => .inl (.inl (hW.1.1 _ _ h4))) (fun i x σ H1 H1' hi hW hY => ?_) (fun σ H1 hW => ?_)
      · obtain ⟨⟨sm, w1⟩, y5, rfl⟩ := hW
        obtain ⟨rfl, hx⟩ := hY
        obtain ⟨u, hu, rfl⟩ := int_at hx
        have hul := k.endl u (List.mem_of_getElem? hu)
        refine ⟨.ref D, rfl, .int (u : Int), rfl, D, _, (u : Int), u, rfl, rfl, w1, ixN_nat (by rw [List.length_map]; unfold marks_; rw [List.length_map, List.length_range]; exact hul), ⟨fun b o eb => ?_, ?_⟩, _, rfl⟩
        · rw [upd_ne (ne_of_none eb nD)]
          exact sm _ _ eb
        · rw [upd_same, take_snoc hu, ← marks_set hul, List.map_set]
      · obtain ⟨⟨sm, w1⟩, y5, rfl⟩ := hW
        have et : M.ends.take (vi M.ends).length = M.ends := List.take_of_length_le (by rw [List.length_map]; exact Nat.le_refl _)
        rw [et] at w1
        exact ⟨.ref D, rfl, q H1 D sm nD w1⟩
end
end LH

namespace LH
open PySem PySem.Spec PyProof.Rows L2 NdefX LamX
theorem back_hide {S : Addr → Prop} {H : Hp} : back S H (hide S H) = H := by
  funext b
  by_cases z : S b
  · rw [back_in z]
  · rw [back_out z, hide_out z]
theorem CellsT.sub {X : Cx} {H : Hp} {fr fr1 : List Str} {ws ws1 : List (Option V)} {cl : List (Str × Addr)} {js1 : List Nat} (C : CellsT H X.env.cells fr ws) (cap : Caps X cl fr1 js1) (len : ws1.length = fr1.length) (pos : ∀ (i : Nat) (y : Str), fr1[i]? = some y → ∃ i' : Nat, fr[i']? = some y ∧ ws[i']? = ws1[i]?) : CellsT H cl fr1 ws1 := by
  refine ⟨len, fun x y c h1 h2 => C.inj x y c (cap.sub x c h1) (cap.sub y c h2), fun y c h => C.all y c (cap.sub y c h), fun i y hy => ?_⟩
  obtain ⟨i', a, b⟩ := pos i y hy
  obtain ⟨c, hc, hv⟩ := C.has i' y a
  exact ⟨c, cap.sup y (List.mem_of_getElem? hy) c hc, fun v ev => hv v (by rw [b]; exact ev)⟩
end LH

namespace LH
open PySem PySem.Spec PyProof.Rows L2 NdefX LamX
/-! ### {k: v} whose key is a tuple -/
def tDispT (tk tv : TE) : TE := fun σ H Q => ∀ p, H p = none → tk σ (upd H p (.dT [])) fun x H1 => tv σ H1 fun y H2 => H2 p = some (.dT []) ∧ ∃ (b : Addr) (k : List Key), x = .ref b ∧ H2 b = some (.tup (k.map kV)) ∧ Q (.ref p) (upd H2 p (.dT [(k, y)]))
theorem pe_dispT {X : Cx} {pos : Pos} {k v : Expr} {tk tv : TE} (hu : X.A.units + 1 < cLine) (hk : PE X k tk) (hv : PE X v tv) : PE X (.Dict [some k] [v] pos) (tDispT tk tv) := by
  refine ⟨fun pins s σ H Q I q => ?_⟩
  have hn := I.hok.fresh (Nat.le_refl s.heap.objs.size)
  have I1 := I.laid (a := s.heap.objs.size) (o := .dT []) (h' := s.heap.push { cls := .type "dict", data := .dict #[] }) (t' := s.toks) (fun _ _ q => Heap.get?_push_of_some _ q) (Nat.le_refl _) (dt_empty s.heap I.big)
  rw [arm_eval_Dict, zip_pairTrees [some k] [v] X.env pos rfl rfl, dictDisplay_pairs _ (by intro z; cases z) (by show 1 < 17; decide)]
  refine wpAny_bind (wpAny_standAt (wpAny_bind ?_))
  unfold subDict
  refine wpAny_bind (wpAny_alloc ?_)
  refine wpAny_bind (wpAny_holding ?_)
  rw [if_pos (show (pairTrees [some k] [v] X.env pos).length ≤ 15 from (by decide : 1 ≤ 15))]
  refine wpAny_bind (pairTrees_cons_walk (thn (hk.run pins _ σ _ _ I1 (q _ hn)) fun u s1 ⟨x, H1, I2, rx, q1⟩ => thn (hv.run pins s1 σ H1 _ I2 q1) fun r s2 ⟨y, H2, I3, ry, e, b, ks, ex, eb, q2⟩ => pairTrees_nil_walk ?_))
  subst ex
  obtain rfl : u = Value.ref b := rx
  obtain ⟨z, hd, xs, rel, dd⟩ := dt_of I3.hok e
  cases rel
  refine wpAny_holding ?_
  rw [List.forIn_cons]
  refine wpAny_bind (wpAny_bind (wpAny_bind (wpAny_dictSet_heap (hsz := Nat.zero_le _) (show X.A.units < cLine by omega) (key_of I3.hok eb) dd fun h' dd' hs => wpAny_pure ?_)))
  dsimp only
  rw [List.forIn_nil]
  refine wpAny_pure (wpAny_pure (wpAny_pure (wpAny_pure ⟨.ref s.heap.objs.size, _, ?_, rfl, q2⟩)))
  obtain ⟨q, es, ep, hq, h2, h3, h4, _, h5⟩ := dd'
  have rel : KT H2 (putK [] ks y) (storedH [] ks b r) := KT.put .nil ks eb ry
  refine d_write I3 (by rw [e]; exact True.intro) hs ⟨q, hq⟩ ⟨by show 1 ≤ sizeLine; decide, hd, _, rel.keeps fun c ys ec => ?_, q, es, ep, hq, h2, h3, h4, h5⟩
  rw [upd_ne (ne_of ec e (fun z => nomatch z))]
  exact ec
/-! ### pairs for keys: a pair (a, b) is told by the number a * n2 + b -/
abbrev pr (n2 s : Nat) : List Nat := [s / n2, s % n2]
abbrev kk (n2 s : Nat) : List Key := [Sum.inl ((s / n2 : Nat) : Int), Sum.inl ((s % n2 : Nat) : Int)]
theorem kk_inj {n2 a b : Nat} (e : kk n2 a = kk n2 b) : a = b := by
  injection e with e1 e2
  injection e2 with e2 _
  have h1 : a / n2 = b / n2 := Int.ofNat.inj (Sum.inl.inj e1)
  have h2 : a % n2 = b % n2 := Int.ofNat.inj (Sum.inl.inj e2)
  rw [← Nat.div_add_mod a n2, ← Nat.div_add_mod b n2, h1, h2]
def PrAt (H : Hp) (n2 : Nat) (p : Addr) (s : Nat) : Prop := H p = some (.tup ((kk n2 s).map kV))
def PrsAt (H : Hp) (n2 : Nat) (ps : List Addr) (ss : List Nat) : Prop := ps.length = ss.length ∧ ∀ (i : Nat) (p : Addr) (s : Nat), ps[i]? = some p → ss[i]? = some s → PrAt H n2 p s
theorem PrsAt.same {H H' : Hp} {n2 : Nat} {ps : List Addr} {ss : List Nat} (h : PrsAt H n2 ps ss) (sm : Same H H') : PrsAt H' n2 ps ss := ⟨h.1, fun i p s x y => sm _ _ (h.2 i p s x y)⟩
theorem PrsAt.upd {H : Hp} {n2 : Nat} {ps : List Addr} {ss : List Nat} {a : Addr} {o : HO} (h : PrsAt H n2 ps ss) (na : ∀ xs, H a ≠ some (.tup xs)) : PrsAt (upd H a o) n2 ps ss := ⟨h.1, fun i p s x y => by
  have z := h.2 i p s x y
  have : p ≠ a := fun e => na _ (e ▸ z)
  show L2.upd H a o p = _
  rw [upd_ne this]
  exact z⟩
theorem PrsAt.snoc {H : Hp} {n2 : Nat} {ps : List Addr} {ss : List Nat} {p : Addr} {s : Nat} (h : PrsAt H n2 ps ss) (hp : PrAt H n2 p s) : PrsAt H n2 (ps ++ [p]) (ss ++ [s]) := by
  refine ⟨by rw [List.length_append, List.length_append, h.1]; rfl, fun i q t x y => ?_⟩
  by_cases hi : i < ps.length
  · rw [List.getElem?_append_left hi] at x
    rw [List.getElem?_append_left (by rw [← h.1]; exact hi)] at y
    exact h.2 i q t x y
  · rw [List.getElem?_append_right (by omega)] at x
    rw [List.getElem?_append_right (by rw [← h.1]; omega), ← h.1] at y
    have e : i - ps.length = 0 := by
      cases z : i - ps.length with
      | zero => rfl
      | succ k =>
        rw [z] at x
        simp at x
    rw [e] at x y
    cases x
    cases y
    exact hp
theorem ref_at {as : List Addr} {i : Nat} {x : V} (h : (vr as)[i]? = some x) : ∃ a, as[i]? = some a ∧ x = .ref a := by
  rw [List.getElem?_map] at h
  obtain ⟨a, e, z⟩ := Option.map_eq_some_iff.mp h
  exact ⟨a, e, z.symm⟩
abbrev mk2 (n2 : Nat) (ks : List Nat) : List (List Key × V) := ks.zipIdx.map fun (p : Nat × Nat) => (kk n2 p.1, V.int (p.2 : Int))
theorem mk2_snoc (n2 : Nat) (ks : List Nat) (t : Nat) : mk2 n2 (ks ++ [t]) = mk2 n2 ks ++ [(kk n2 t, V.int (ks.length : Int))] := by
  show List.map _ (ks ++ [t]).zipIdx = _
  rw [List.zipIdx_append, List.map_append]
  simp
theorem valV_mkk2 (n2 x : Nat) : ∀ (ks : List Nat) (k : Nat), valV ((ks.zipIdx k).map fun (p : Nat × Nat) => (kk n2 p.1, V.int (p.2 : Int))) (kk n2 x) = if x ∈ ks then some (.int ((k + ks.idxOf x : Nat) : Int)) else none
  | [], _ => rfl
  | h :: r, k => by
    rw [List.zipIdx_cons, List.map_cons, List.idxOf_cons]
    by_cases q : h = x
    · subst q
      rw [valV_pos rfl, if_pos (List.mem_cons_self ..)]
      simp
    · have ne : ¬ (((h, k) : Nat × Nat) |> fun p => (kk n2 p.1, V.int (p.2 : Int))).1 = kk n2 x := fun z => q (kk_inj z)
      rw [valV_neg ne, valV_mkk2 n2 x r (k + 1), show (h == x) = false from beq_eq_false_iff_ne.mpr q]
      have : (x ∈ h :: r) ↔ x ∈ r := ⟨fun z => (List.mem_cons.mp z).elim (fun y => absurd y.symm q) id, List.mem_cons_of_mem _⟩
      by_cases e : x ∈ r
      · rw [if_pos e, if_pos (this.mpr e)]
        show some (V.int ((k + 1 + r.idxOf x : Nat) : Int)) = some (V.int ((k + (r.idxOf x + 1) : Nat) : Int))
        congr 2
        omega
      · rw [if_neg e, if_neg (fun z => e (this.mp z))]
theorem valV_mk2 (n2 x : Nat) (ks : List Nat) : valV (mk2 n2 ks) (kk n2 x) = if x ∈ ks then some (.int ((ks.idxOf x : Nat) : Int)) else none := by
  have := valV_mkk2 n2 x ks 0
  rw [Nat.zero_add] at this
  exact this
theorem mk2_len (n2 : Nat) (ks : List Nat) : (mk2 n2 ks).length = ks.length := by
  show (List.map _ _).length = _
  rw [List.length_map, List.length_zipIdx]
section
variable {P : Program} {w : World} {K : PySem.W.Frag} {mg : Str → Option Value} {base : Heap}
def sp_walked2 (P : Program) (w : World) (K : PySem.W.Frag) (mg : Str → Option Value) (base : Heap) : Sp := fun vs H Q _ => ∃ (p0 f : Addr) (F : NF) (spf : Sp) (n2 s0 n0 L : Nat) (R : Nat → List Nat), vs = [.ref p0, .ref f] ∧ PrAt H n2 p0 s0 ∧ H f = some (FnO f F) ∧ Callable P w K mg base 4 f spf ∧ s0 < n0 ∧ n0 ≤ 1000000 ∧ L ≤ 5 ∧ (∀ s, s < n0 → (R s).length = L ∧ ∀ t ∈ R s, t < n0) ∧
  (∀ (s : Nat) (p : Addr) (H' : Hp) (Q' : VK), s < n0 → Same H H' → PrAt H' n2 p s → (∀ H'' b bas, Same H' H'' → H' b = none → H'' b = some (.lst (vr bas)) → PrsAt H'' n2 bas (R s) → Q' (.ref b) H'') → spf [.ref p] H' Q' E0) ∧
  ∀ H' p ka tb ras kas ks tbl, Same H H' → H' p = some (.tup [.ref ka, .ref tb]) → H' ka = some (.lst (vr kas)) → PrsAt H' n2 kas ks → LolAt H' tb ras tbl → WI n0 L R s0 ks tbl → tbl.length = ks.length → (∀ r ∈ tbl, r.length = L) → Q (.ref p) H'

theorem ok_walked2 (T : TX K mg) : FnOk P w K mg base CX0 5 T.a_walked T.fd_walked ["start", "follow"] (sp_walked2 P w K mg base) := by
  refine T.F_walked.ok sc_walked (fun vs H Q E h => ?_) (fun cdv A outer s H vs Q E hr h => ?_)
  · obtain ⟨p0, f, F, spf, n2, s0, n0, L, R, rfl, _⟩ := h
    rfl
  · obtain ⟨p0, f, F, spf, n2, s0, n0, L, R, rfl, hp0, hf, ca, h0, hbig, hL, hR, hsp, q⟩ := h
    refine ⟨_, (pss_cons (ps_set (i := 2) sc_walked.nd rfl (Or.inl rfl) (pe_dispT (hu_of hr) (pv 0) pe_int))
      (pss_cons (ps_set (i := 3) sc_walked.nd rfl (Or.inl rfl) (pe_lst (pa_cons (pv 0) pa_nil)))
      (pss_cons (ps_set (i := 4) sc_walked.nd rfl (Or.inl rfl) (pe_lst pa_nil))
      (pss_cons (ps_while PassesOwn.never (pt_cmpR op_lt (pe_callB (call_lenK K rfl) (by rfl) T.m_len (by decide +kernel) (pa_cons (pv 4) pa_nil)) (pe_callB (call_lenK K rfl) (by rfl) T.m_len (by decide +kernel) (pa_cons (pv 3) pa_nil)) (nomark _))
        (pss_cons (ps_set (i := 5) sc_walked.nd rfl (Or.inl rfl) (pe_lst pa_nil))
          (pss_cons (ps_set (i := 6) sc_walked.nd rfl (Or.inl rfl) (pe_callV (k := 4) (i := 1) P w K mg base rfl rfl rfl rfl rfl (hr.mono (by decide)) rfl (by first | exact Or.inl rfl | exact Or.inr (Or.inl rfl) | exact Or.inr (Or.inr rfl)) (pa_cons (pe_ix (ix_listK K rfl) (pv 3) (pe_callB (call_lenK K rfl) (by rfl) T.m_len (by decide +kernel) (pa_cons (pv 4) pa_nil)) (fun _ _ => rfl)) pa_nil)))
          (pss_cons (ps_for PassesOwn.never rfl (pi_listK K rfl (pv 6)) (pg_name (i := 7) sc_walked.nd rfl (Or.inl rfl))
            (C8.pss_cut (ps_if (pt_cmp (pc_dnotin (hu_of hr) (pv 7) (pv 2)))
                (pss_cons (ps_dput (hu_of hr) (pv 2) (pv 7) (pe_callB (call_lenK K rfl) (by rfl) T.m_len (by decide +kernel) (pa_cons (pv 3) pa_nil)) rfl)
                  (pss_one (ps_expr (pe_bmK K rfl PySem.F.plainAttrs_list PySem.F.slot_list_append PySem.F.type_list_append mt_append (pv 3) (pa_cons (pv 7) pa_nil)))))
                pss_nil)
              (pss_one (ps_expr (pe_bmK K rfl PySem.F.plainAttrs_list PySem.F.slot_list_append PySem.F.type_list_append mt_append (pv 5) (pa_cons (pe_dget (hu_of hr) (pv 2) (pv 7) (fun _ _ => rfl)) pa_nil))))))
          (pss_one (ps_expr (pe_bmK K rfl PySem.F.plainAttrs_list PySem.F.slot_list_append PySem.F.type_list_append mt_append (pv 4) (pa_cons (pv 5) pa_nil))))))))
      (pss_one (ps_ret (pe_tup (pa_cons (pv 3) (pa_cons (pv 4) pa_nil))))))))), ?_⟩
    have sl : ∀ m, m ≤ 1000000 → m < sizeLine := fun m hm => Nat.lt_of_le_of_lt hm (by decide)
    -- numbers, keys, table
    refine fun nm nnm => ⟨.ref p0, rfl, upd_same, p0, kk n2 s0, rfl, same_new nnm _ _ hp0, ?_⟩
    rw [upd_upd]
    refine ⟨.ref p0, rfl, by show 1 ≤ sizeLine; decide, fun ka nka => ⟨by show 0 ≤ sizeLine; decide, fun ta nta => ?_⟩⟩
    have em : [(kk n2 s0, V.int 0)] = mk2 n2 [s0] := rfl
    rw [em] at nka nta ⊢
    have d1 : nm ≠ ka := ne_of_none upd_same nka
    have e1 : (upd (upd H nm (.dT (mk2 n2 [s0]))) ka (.lst [.ref p0])) nm = some (.dT (mk2 n2 [s0])) := same_new nka _ _ upd_same
    have d2 : nm ≠ ta := ne_of_none e1 nta
    have d3 : ka ≠ ta := ne_of_none upd_same nta
    have fka : H ka = none := (same_new nnm).free nka
    have sm0 : Same H (upd (upd H nm (.dT (mk2 n2 [s0]))) ka (.lst [.ref p0])) := (same_new nnm).trans (same_new nka)
    have fta : H ta = none := sm0.free nta
    -- while
    refine ⟨fun m σ H' => ∃ (ks : List Nat) (kas : List Addr) (tbl : List (List Nat)) (ras : List Addr) (y5 y6 y7 : Option V), m + tbl.length = n0 + 1 ∧ σ = [some (.ref p0), some (.ref f), some (.ref nm), some (.ref ka), some (.ref ta), y5, y6, y7] ∧ Same H H' ∧ H' nm = some (.dT (mk2 n2 ks)) ∧ H' ka = some (.lst (vr kas)) ∧ PrsAt H' n2 kas ks ∧ LolAt H' ta ras tbl ∧ WI n0 L R s0 ks tbl ∧ (∀ r ∈ tbl, r.length = L) ∧ (∀ a ∈ ras, H a = none ∧ a ≠ ta ∧ a ≠ ka),
      ⟨n0 + 1, [s0], [p0], [], [], none, none, none, rfl, rfl, sm0.trans (same_new nta), same_new nta _ _ e1, same_new nta _ _ upd_same, ⟨rfl, fun i p s x y => ?_⟩, ⟨upd_same, rfl, fun i b w x => by simp at x⟩, WI.start h0, (fun _ h => nomatch h), fun _ h => nomatch h⟩, fun m σ H1 hW => ?_⟩
    · cases i with
      | zero =>
        cases x
        cases y
        exact (sm0.trans (same_new nta)) _ _ hp0
      | succ i => simp at x
    obtain ⟨ks, kas, tbl, ras, y5, y6, y7, hm, rfl, sm1, en, ek1, pk1, ht1, wi, full, fr⟩ := hW
    have hmany := wi.many
    have hrl : ras.length = tbl.length := ht1.2.1
    have hkl : kas.length = ks.length := pk1.1
    refine ⟨.ref ta, rfl, ta, _, rfl, .inl (.inl (.inl ht1.1)), .ref ka, rfl, ka, _, rfl, .inl (.inl (.inl ek1)), _, _, rfl, rfl, _, rfl, ite2 (fun z => ?_) (fun z => ?_)⟩
    · have hlt : tbl.length < ks.length := by
        have := of_decide_eq_true z
        rw [List.length_map, List.length_map, hrl, hkl] at this
        omega
      refine ⟨fun σ' H' => ∃ (ks : List Nat) (kas : List Addr) (row : List Nat) (ras' : List Addr) (y5 y6 y7 : Option V), σ' = [some (.ref p0), some (.ref f), some (.ref nm), some (.ref ka), some (.ref ta), y5, y6, y7] ∧ Same H H' ∧ H' nm = some (.dT (mk2 n2 ks)) ∧ H' ka = some (.lst (vr kas)) ∧ PrsAt H' n2 kas ks ∧ LolAt H' ta ras' (tbl ++ [row]) ∧ WI n0 L R s0 ks (tbl ++ [row]) ∧ row.length = L ∧ (∀ a ∈ ras', H a = none ∧ a ≠ ta ∧ a ≠ ka), fun σ' H' hN => ?_, ?_⟩
      · obtain ⟨ks', kas', row, ras', y5, y6, y7, r1, r2, r3, r4, r4', r5, r6, r7, r8⟩ := hN
        have := r6.le
        have hm' := r6.many
        rw [List.length_append] at this
        have this : tbl.length + 1 ≤ ks'.length := this
        refine ⟨m - 1, by omega, ks', kas', tbl ++ [row], ras', y5, y6, y7, ?_, r1, r2, r3, r4, r4', r5, r6, mem_snoc full r7, r8⟩
        rw [List.length_append]
        show m - 1 + (tbl.length + 1) = n0 + 1
        omega
      -- row = []
      refine ⟨by show 0 ≤ sizeLine; decide, fun ra nra => ?_⟩
      have sm2 : Same H (upd H1 ra (.lst [])) := sm1.trans (same_new nra)
      have s2 : Same H1 (upd H1 ra (.lst [])) := same_new nra
      have era : (upd H1 ra (.lst [])) ra = some (.lst (vi [])) := upd_same
      have fra : H ra = none := sm1.free nra
      have ra1 : nm ≠ ra := ne_of_none en nra
      have ra2 : ka ≠ ra := ne_of_none ek1 nra
      have ra3 : ta ≠ ra := ne_of_none ht1.1 nra
      have ra4 : ∀ a ∈ ras, a ≠ ra := fun a ha e => by
        obtain ⟨i, hi⟩ := List.mem_iff_getElem?.mp ha
        have hil : i < tbl.length := by
          rw [← hrl]
          exact (List.getElem?_eq_some_iff.mp hi).1
        have := ht1.2.2 i a _ hi (List.getElem?_eq_getElem hil)
        exact ne_of_none this nra e
      have en2 := s2 _ _ en
      have ek2 := s2 _ _ ek1
      have pk2 := pk1.same s2
      have ht2 := ht1.same s2
      generalize upd H1 ra (.lst []) = H2 at sm2 s2 era en2 ek2 pk2 ht2
      have hks : ks[tbl.length]? = some ks[tbl.length] := List.getElem?_eq_getElem hlt
      generalize ks[tbl.length] = sx at hks
      have hlk : tbl.length < kas.length := by omega
      have hka : kas[tbl.length]? = some kas[tbl.length] := List.getElem?_eq_getElem hlk
      generalize kas[tbl.length] = px at hka
      have hsx : sx < n0 := wi.lt sx (List.mem_of_getElem? hks)
      obtain ⟨hRl, hRt⟩ := hR sx hsx
      have hvk : (vr kas)[ras.length]? = some (.ref px) := by
        rw [List.getElem?_map, hrl, hka]
        rfl
      have hpx : PrAt H2 n2 px sx := pk2.2 _ _ _ hka hks
      -- behind = follow(keys[len(table)])
      refine ⟨f, F, spf, rfl, sm2 _ _ hf, ca, .ref ka, rfl, .ref ta, rfl, ta, _, rfl, .inl (.inl (.inl ht2.1)), ka, _, _, .ref px, rfl, rfl, .inl (.inl ek2), ?_, sm2 _ _ hf, hsp sx px H2 _ hsx sm2 hpx fun H3 pb bas s3 npb eb pbs => ?_⟩
      · rw [List.length_map]
        exact atI_nat hvk
      have wi0 := wi.open_ hlt
      have b1 : nm ≠ pb := ne_of_none en2 npb
      have b2 : ka ≠ pb := ne_of_none ek2 npb
      have b3 : ra ≠ pb := ne_of_none era npb
      have hbl : bas.length = L := by rw [pbs.1, hRl]
      -- for key in behind
      refine ⟨.ref pb, rfl, pb, rfl, ⟨_, .inl (.inl eb)⟩, ?_⟩
      refine for_it (walk_list (K := K) (a := pb) (xs := vr bas)) (fun c σ H' => (∃ ks kas cur, Same H H' ∧ H' nm = some (.dT (mk2 n2 ks)) ∧ H' ka = some (.lst (vr kas)) ∧ PrsAt H' n2 kas ks ∧ LolAt H' ta ras tbl ∧ H' ra = some (.lst (vi cur)) ∧ H' pb = some (.lst (vr bas)) ∧ PrsAt H' n2 bas (R sx) ∧ cur.length = c ∧ ks[tbl.length]? = some sx ∧ WI n0 L R s0 ks (tbl ++ [cur])) ∧ ∃ y7, σ = [some (.ref p0), some (.ref f), some (.ref nm), some (.ref ka), some (.ref ta), some (.ref ra), some (.ref pb), y7]) ⟨⟨ks, kas, [], sm2.trans s3, s3 _ _ en2, s3 _ _ ek2, pk2.same s3, ht2.same s3, s3 _ _ era, eb, pbs, rfl, hks, wi0⟩, y7, rfl⟩ (fun c σ H' _ hW => ?_) (fun c x σ H4 H4' hc hW hY => ?_) (fun σ H4 hW => ?_)
      · obtain ⟨⟨_, _, _, _, _, _, _, _, _, z, _⟩, _⟩ := hW
        exact .inl (.inl z)
      · obtain ⟨⟨ks, kas, cur, sm4, en4, ek4, pk4, ht4, er4, eb4, pb4, lc, hk4, wi4⟩, y7, rfl⟩ := hW
        obtain ⟨rfl, hx⟩ := hY
        obtain ⟨pt, hpt, rfl⟩ := ref_at hx
        have hcl : c < (R sx).length := by
          rw [← pb4.1]
          exact (List.getElem?_eq_some_iff.mp hpt).1
        have ht : (R sx)[c]? = some (R sx)[c] := List.getElem?_eq_getElem hcl
        generalize (R sx)[c] = t at ht
        have ppt : PrAt H4' n2 pt t := pb4.2 _ _ _ hpt ht
        have htn := hRt t (List.mem_of_getElem? ht)
        have hm4 := wi4.many
        have nn : ∀ xs, H4' nm ≠ some (.tup xs) := fun xs z => by rw [en4] at z; cases z
        have nk : ∀ xs, H4' ka ≠ some (.tup xs) := fun xs z => by rw [ek4] at z; cases z
        have nlol : ∀ {H5 : Hp}, (∀ b, b ≠ nm → b ≠ ka → b ≠ ra → H5 b = H4' b) → LolAt H5 ta ras tbl := fun {H5} hh => by
          refine ⟨by rw [hh ta (Ne.symm d2) (Ne.symm d3) ra3]; exact ht4.1, ht4.2.1, fun i b w' x' y' => ?_⟩
          have z := ht4.2.2 i b w' x' y'
          rw [hh b (ne_of z en4 (by intro q; cases q)) (fr b (List.mem_of_getElem? x')).2.2 (ra4 b (List.mem_of_getElem? x'))]
          exact z
        refine ⟨fun σ' H' => ∃ ks' kas', (ks' = ks ∨ (ks' = ks ++ [t] ∧ t ∉ ks)) ∧ t ∈ ks' ∧ ks'.Nodup ∧ σ' = [some (.ref p0), some (.ref f), some (.ref nm), some (.ref ka), some (.ref ta), some (.ref ra), some (.ref pb), some (.ref pt)] ∧ Same H H' ∧ H' nm = some (.dT (mk2 n2 ks')) ∧ H' ka = some (.lst (vr kas')) ∧ PrsAt H' n2 kas' ks' ∧ (∀ b, b ≠ nm → b ≠ ka → H' b = H4' b), ?_, fun σ' H' hM => ?_⟩
        · refine ⟨.ref pt, rfl, .ref nm, rfl, nm, _, rfl, DGet.t (k := kk n2 t) en4 ppt, _, rfl, ?_⟩
          rw [valV_mk2]
          by_cases hin : t ∈ ks
          · rw [if_pos hin]
            refine iteF ?_
            exact ⟨ks, kas, .inl rfl, hin, wi4.nd, rfl, sm4, en4, ek4, pk4, fun _ _ _ => rfl⟩
          · rw [if_neg hin]
            refine iteT ?_
            have ep : putK (mk2 n2 ks) (kk n2 t) (V.int ((vr kas).length : Int)) = mk2 n2 (ks ++ [t]) := by
              unfold putK
              rw [valV_any, valV_mk2, if_neg hin, if_neg (by decide), mk2_snoc, List.length_map, pk4.1]
            refine ⟨.ref ka, rfl, ka, _, rfl, .inl (.inl (.inl ek4)), .ref nm, rfl, .ref pt, rfl, nm, _, rfl, DPut.t (k := kk n2 t) en4 ppt (by rw [mk2_len]; exact sl _ (by omega)), ?_⟩
            rw [ep]
            have ek5 : (upd H4' nm (.dT (mk2 n2 (ks ++ [t])))) ka = some (.lst (vr kas)) := by
              rw [upd_ne (Ne.symm d1)]
              exact ek4
            have pk5 : PrsAt (upd H4' nm (.dT (mk2 n2 (ks ++ [t])))) n2 (kas ++ [pt]) (ks ++ [t]) := (pk4.snoc ppt).upd nn
            refine ⟨.ref ka, rfl, .inl ⟨rfl, _, .inl (.inl ek5)⟩, .ref pt, rfl, ka, _, _, rfl, rfl, ek5, by rw [List.length_map, pk4.1]; exact sl _ (by omega), ks ++ [t], kas ++ [pt], .inr ⟨rfl, hin⟩, List.mem_append_right _ (List.mem_singleton.mpr rfl), ?_, rfl, ?_, ?_, ?_, ?_, ?_⟩
            · refine List.nodup_append.mpr ⟨wi4.nd, by simp, fun x hx y hy e => ?_⟩
              rw [List.mem_singleton.mp hy] at e
              exact hin (e ▸ hx)
            · intro b o e
              rw [upd_ne (ne_of_none e fka), upd_ne (ne_of_none e nnm)]
              exact sm4 _ _ e
            · rw [upd_ne d1, upd_same]
            · rw [upd_same, vr_snoc]
            · exact pk5.upd fun xs z => by rw [ek5] at z; cases z
            · intro b h1 h2
              rw [upd_ne h2, upd_ne h1]
        · obtain ⟨ks', kas', hk', htin, nd', rfl, sm5, en5, ek5, pk5, rest⟩ := hM
          have er5 : H' ra = some (.lst (vi cur)) := by
            rw [rest ra (Ne.symm ra1) (Ne.symm ra2)]
            exact er4
          have ppt5 : PrAt H' n2 pt t := by
            show H' pt = _
            rw [rest pt (fun e => nn _ (e ▸ ppt)) (fun e => nk _ (e ▸ ppt))]
            exact ppt
          have pb5 : PrsAt H' n2 bas (R sx) := ⟨pb4.1, fun i p' s' x' y' => by
            have z := pb4.2 i p' s' x' y'
            show H' p' = _
            rw [rest p' (fun e => nn _ (e ▸ z)) (fun e => nk _ (e ▸ z))]
            exact z⟩
          have nr5 : ∀ xs, H' ra ≠ some (.tup xs) := fun xs z => by rw [er5] at z; cases z
          have hvt : ks'[ks'.idxOf t]? = some t := by
            have := List.idxOf_lt_length_iff.mpr htin
            rw [List.getElem?_eq_getElem this, List.getElem_idxOf]
          have hk5 : ks'[tbl.length]? = some sx := by
            rcases hk' with rfl | ⟨rfl, _⟩
            · exact hk4
            · rw [List.getElem?_append_left (List.getElem?_eq_some_iff.mp hk4).1]
              exact hk4
          -- row.append(numbers[key])
          refine ⟨.ref ra, rfl, .inl ⟨rfl, _, .inl (.inl er5)⟩, .ref nm, rfl, .ref pt, rfl, nm, .int (ks'.idxOf t : Nat), rfl, ?_, ra, _, _, rfl, rfl, er5, by rw [List.length_map]; exact sl _ (by omega), ⟨ks', kas', cur ++ [ks'.idxOf t], ?_, ?_, ?_, pk5.upd nr5, ?_, ?_, ?_, pb5.upd nr5, ?_, hk5, ?_⟩, _, rfl⟩
          · have := DGet.t (k := kk n2 t) en5 ppt5
            rw [valV_mk2, if_pos htin] at this
            exact this
          · intro b o e
            rw [upd_ne (ne_of_none e fra)]
            exact sm5 _ _ e
          · rw [upd_ne ra1]
            exact en5
          · rw [upd_ne ra2]
            exact ek5
          · exact nlol fun b h1 h2 h3 => by
              rw [upd_ne h3]
              exact rest b h1 h2
          · rw [upd_same, vi_snoc]
          · rw [upd_ne (Ne.symm b3), rest pb (Ne.symm b1) (Ne.symm b2)]
            exact eb4
          · rw [List.length_append, lc]
            rfl
          · exact wi4.put hk4 (by rw [lc]; exact ht) htn (by omega) hvt hk'
      · obtain ⟨⟨ks, kas, cur, sm4, en4, ek4, pk4, ht4, er4, eb4, pb4, lc, hk4, wi4⟩, y7, rfl⟩ := hW
        rw [List.length_map, hbl] at lc
        have nt : ∀ a ∈ ras, a ≠ ta := fun a ha => (fr a ha).2.1
        -- table.append(row)
        refine ⟨.ref ta, rfl, .inl ⟨rfl, _, .inl (.inl ht4.1)⟩, .ref ra, rfl, ta, _, _, rfl, rfl, ht4.1, by rw [List.length_map, hrl]; exact sl _ (by omega), ks, kas, cur, ras ++ [ra], _, _, _, rfl, ?_, ?_, ?_, pk4.upd (fun xs z => by rw [ht4.1] at z; cases z), ?_, wi4, lc, ?_⟩
        · intro b o e
          rw [upd_ne (ne_of_none e fta)]
          exact sm4 _ _ e
        · rw [upd_ne d2]
          exact en4
        · rw [upd_ne d3]
          exact ek4
        · rw [vr_snoc]
          exact lol_snoc ht4 er4 nt (Ne.symm ra3)
        · exact mem_snoc fr ⟨fra, Ne.symm ra3, Ne.symm ra2⟩
    · have hle := wi.le
      have hlen : tbl.length = ks.length := by
        have : ¬ (((vr ras).length : Nat) : Int) < ((vr kas).length : Nat) := fun y => z (decide_eq_true y)
        rw [List.length_map, List.length_map, hrl, hkl] at this
        omega
      refine ⟨.ref ka, rfl, .ref ta, rfl, by show 2 ≤ sizeLine; decide, fun p np => ?_⟩
      exact q _ p ka ta ras kas ks tbl (sm1.trans (same_new np)) upd_same (same_new np _ _ ek1) (pk1.same (same_new np)) (ht1.same (same_new np)) wi hlen full
end
end LH

namespace LH
open PySem PySem.Spec PyProof.Rows L2 NdefX LamX
section
variable {P : Program} {w : World} {K : PySem.W.Frag} {mg : Str → Option Value} {base : Heap}
def sp_built2 (P : Program) (w : World) (K : PySem.W.Frag) (mg : Str → Option Value) (base : Heap) : Sp := fun vs H Q _ => ∃ (z : Str) (p0 f g : Addr) (F G : NF) (spf spg : Sp) (n2 s0 n0 L : Nat) (R : Nat → List Nat) (fin : Nat → Bool), vs = [.str z, .ref p0, .ref f, .ref g] ∧ PrAt H n2 p0 s0 ∧ H f = some (FnO f F) ∧ Callable P w K mg base 4 f spf ∧ H g = some (FnO g G) ∧ Callable P w K mg base 4 g spg ∧
  s0 < n0 ∧ n0 ≤ 1000000 ∧ 1 ≤ L ∧ L ≤ 5 ∧ (∀ s, s < n0 → (R s).length = L ∧ ∀ t ∈ R s, t < n0) ∧
  (∀ (s : Nat) (p : Addr) (H' : Hp) (Q' : VK), s < n0 → Same H H' → PrAt H' n2 p s → (∀ H'' b bas, Same H' H'' → H' b = none → H'' b = some (.lst (vr bas)) → PrsAt H'' n2 bas (R s) → Q' (.ref b) H'') → spf [.ref p] H' Q' E0) ∧
  (∀ (s : Nat) (p : Addr) (H' : Hp) (Q' : VK), s < n0 → Same H H' → PrAt H' n2 p s → (∀ H'', Same H' H'' → Q' (.bl (fin s)) H'') → spg [.ref p] H' Q' E0) ∧
  ∀ H' p (M : Mach) ks tbl hl, Same H H' → MachAt H' p M → M.z = z → BuiltOk n0 L R s0 fin M ks tbl hl → Q (.ref p) H'
theorem ok_built2 (T : TX K mg) : FnOk P w K mg base CX0 6 T.a_built T.fd_built ["letters", "start", "follow", "is_end"] (sp_built2 P w K mg base) := by
  have G_walked : FnOk P w K mg base CX0 5 T.a_walked T.fd_walked ["start", "follow"] (sp_walked2 P w K mg base) := ok_walked2 T
  have G_parted : FnOk P w K mg base CX0 2 T.a_parted T.fd_parted ["table", "ended"] sp_parted := ok_parted T
  have G_merged : FnOk P w K mg base CX0 1 T.a_merged T.fd_merged ["letters", "table", "ended", "homes"] sp_merged := ok_merged T
  refine T.F_built.ok sc_built (fun vs H Q E h => ?_) (fun cdv A outer s H vs Q E hr h => ?_)
  · obtain ⟨z, p0, f, g, F, G, spf, spg, n2, s0, n0, L, R, fin, rfl, _⟩ := h
    rfl
  · obtain ⟨z, p0, f, g, F, G, spf, spg, n2, s0, n0, L, R, fin, rfl, hp0, hf, caf, hg, cag, h0, hbig, hL1, hL5, hR, hspf, hspg, q⟩ := h
    refine ⟨_, (pss_cons (ps_asg (pe_call G_walked (hr.mono (by decide)) (by rfl) T.g_walked T.F_walked.kp T.b_walked .nil pass0 (pa_cons (pv 1) (pa_cons (pv 2) pa_nil))) (pg_tupK (n := 2) K rfl (by rfl) (pgs_cons (pg_name (i := 4) sc_built.nd rfl (Or.inl rfl)) (pgs_cons (pg_name (i := 5) sc_built.nd rfl (Or.inl rfl)) pgs_nil))))
      (pss_cons (ps_setLc (i := 6) (own := [("key", 7)]) (g := gName 7) (tt := tYes) (by rfl) sc_built.nd rfl rfl (sw_true rfl rfl rfl (by decide +kernel)) (pi_listK K rfl (pv 4)) (blkOk_by (own := [("key", 7)]) (N := N_built) (by kernel_rfl)) (fun _ _ _ _ _ => (pg_name (i := 7) sc_built.nd rfl (by first | exact Or.inl rfl | exact Or.inr rfl))) (fun _ _ _ _ _ => pts_nil) (fun _ _ _ _ _ => (pe_callV (k := 4) (i := 3) P w K mg base rfl rfl rfl rfl rfl (hr.mono (by decide)) rfl (by first | exact Or.inl rfl | exact Or.inr (Or.inl rfl) | exact Or.inr (Or.inr rfl)) (pa_cons (pv 7) pa_nil))))
      (pss_one (ps_ret (pe_call G_merged (hr.mono (by decide)) (by rfl) T.g_merged T.F_merged.kp T.b_merged .nil pass0 (pa_cons (pv 0) (pa_cons (pv 5) (pa_cons (pv 6) (pa_cons (pe_call G_parted (hr.mono (by decide)) (by rfl) T.g_parted T.F_parted.kp T.b_parted .nil pass0 (pa_cons (pv 5) (pa_cons (pv 6) pa_nil))) pa_nil))))))))), ?_⟩
    -- keys, table = walked(start, follow)
    refine ⟨.ref p0, rfl, .ref f, rfl, p0, f, F, spf, n2, s0, n0, L, R, rfl, hp0, hf, caf, h0, hbig, hL5, hR, hspf, fun H1 p ka tb ras kas ks tbl sm1 ep ek pk et wi len full => ?_⟩
    refine ⟨p, [.ref ka, .ref tb], rfl, .inl (.inl ep), rfl, .ref ka, [.ref tb], rfl, .ref tb, [], rfl, rfl, ?_⟩
    have tk := BuiltOk.tab wi len full hL1 hL5 hbig
    have hm := wi.many
    -- ended
    refine ⟨.ref ka, rfl, ka, rfl, ⟨_, .inl (.inl ek)⟩, fun D nD => ?_⟩
    have fD : H D = none := sm1.free nD
    refine lc_it (walk_list (K := K) (a := ka) (xs := vr kas)) (fun i H' => Same H1 H' ∧ H' D = some (.lst (((ks.take i).map fin).map V.bl))) ⟨same_new nD, upd_same⟩ (fun i H' _ hW => .inl (.inl (hW.1 _ _ ek))) (fun i x H2 H2' hi hW hY => ?_) (fun H2 hW => ?_)
    · obtain ⟨s2, e2⟩ := hW
      obtain ⟨rfl, hx⟩ := hY
      obtain ⟨pt, hpt, rfl⟩ := ref_at hx
      rw [List.length_map, pk.1] at hi
      have ht : ks[i]? = some ks[i] := List.getElem?_eq_getElem hi
      generalize ks[i] = t at ht
      have ppt : PrAt H2' n2 pt t := s2 _ _ (pk.2 _ _ _ hpt ht)
      refine ⟨rfl, lcyes ?_⟩
      refine ⟨g, G, spg, rfl, s2 _ _ (sm1 _ _ hg), cag, .ref pt, rfl, s2 _ _ (sm1 _ _ hg), hspg t pt H2' _ (wi.lt t (List.mem_of_getElem? ht)) (sm1.trans s2) ppt fun H3 s3 => ?_⟩
      refine ⟨_, s3 _ _ e2, ?_, fun b o eb => ?_, ?_⟩
      · rw [List.length_map, List.length_map, List.length_take]
        exact Nat.lt_of_le_of_lt (show _ ≤ 1000000 by omega) (by decide)
      · rw [upd_ne (ne_of_none eb nD)]
        exact s3 _ _ (s2 _ _ eb)
      · rw [upd_same, take_snoc ht, List.map_append, List.map_append]
        rfl
    · obtain ⟨s2, e2⟩ := hW
      have etk : ks.take (vr kas).length = ks := List.take_of_length_le (by rw [List.length_map, pk.1]; exact Nat.le_refl _)
      rw [etk] at e2
      have lbs : (ks.map fin).length = ks.length := List.length_map ..
      -- merged(letters, table, ended, parted(table, ended))
      refine ⟨.str z, rfl, .ref tb, rfl, .ref D, rfl, .ref tb, rfl, .ref D, rfl, tb, D, ras, tbl, ks.map fin, ks.length, L, rfl, et.same s2, tk, e2, lbs, fun H3 ho hl s3 fho eho lhl like => ?_⟩
      refine ⟨z, tb, D, ho, ras, tbl, ks.map fin, hl, ks.length, L, rfl, (et.same s2).same s3, tk, s3 _ _ e2, lbs, eho, lhl, fun H4 p4 s4 mm => ?_⟩
      exact q H4 p4 _ ks tbl hl (((sm1.trans s2).trans s3).trans s4) mm rfl ⟨wi, len, full, lhl, like, rfl, rfl⟩
end
end LH

namespace LH
open PySem PySem.Spec PyProof.Rows L2
/-! ### list(zip(tuple, tuple)) -/
section
variable {prog : Program} {w : World} {A : Around} {E : Value → Shared → Prop} {s : Shared}
theorem zt_held {z TI TO T i1 i2 l1 l2 : Addr} {f : Bool} {oT : Obj} {k1 k2 : Nat} {xs ys : Array Value} {x y : Value} {Q : Option Value → Shared → Prop} (D : ZipApart z TI TO i1 i2 l1 l2)
    (hz : IsZipHeld s.heap z TI TO T f) (hT : s.heap.get? T = some oT) (hTI : IsPair s.heap TI (.ref i1) (.ref i2))
    (h1 : s.heap.IsTupleIter i1 l1 k1) (h2 : s.heap.IsTupleIter i2 l2 k2) (hl1 : s.heap.IsTuple l1 xs) (hl2 : s.heap.IsTuple l2 ys) (hx : xs[k1]? = some x) (hy : ys[k2]? = some y)
    (hQ : ∀ h', IsZipHeld h' z TI TO T true → h'.IsTupleIter i1 l1 (k1 + 1) → h'.IsTupleIter i2 l2 (k2 + 1) → IsPair h' s.heap.objs.size x y → h'.objs.size = s.heap.objs.size + 1 →
      (∀ c o, c ≠ z → c ≠ i1 → c ≠ i2 → s.heap.get? c = some o → h'.get? c = some o) → Q (some (.ref s.heap.objs.size)) { s with heap := h' }) :
    wpAny (model prog w) A (pyNext (.ref z)) Q E s := by
  have hTy : s.TypeIs (.ref z) "zip" := ⟨_, hz, rfl⟩
  unfold pyNext
  refine wpAny_bind (wpAny_attempt (wpAny_callSpecial?_slot (name := Str.ofString "__next__") hTy F.slot_zip_next
    (wpAny_call_entry F.slot_zip_next hTy F.entry_zip_next ?_ (F.args_zip_next_1 _))))
  show wpAny _ _ (field (.ref z) 2 >>= _) _ _ _
  refine wpAny_bind (wpAny_field hz rfl (x := .bool false) rfl ?_)
  show wpAny _ _ (field (.ref z) 3 >>= _) _ _ _
  refine wpAny_bind (wpAny_field hz rfl (x := .ref TI) rfl ?_)
  refine wpAny_bind (wpAny_seqItems hTI rfl ?_)
  show wpAny _ _ (Builtin.SmallTypes.ownedTupleIsFree (.ref z) >>= _) _ _ _
  refine wpAny_bind (wpAny_tupleHeld_zip hz hT fun h₁ hz₁ hs₁ => ?_)
  simp only [Bool.false_eq_true, if_false]
  refine wpAny_bind ?_
  rw [← Array.forIn_toList]
  simp only [List.forIn_cons, List.forIn_nil]
  refine wpAny_bind (wpAny_bind (wpAny_holding ?_))
  show wpAny _ _ (Builtin.SmallTypes.nextOf (.ref i1) >>= _) _ _ _
  refine wpAny_bind (RZ.nextOf_tuple_item (s := { s with heap := h₁ }) (h1.extBut hs₁.extBut D.i1z) (hl1.extBut hs₁.extBut D.l1z) hx fun h₂ h1₂ hs₂ => wpAny_pure ?_)
  refine wpAny_pure ?_
  refine wpAny_bind (wpAny_bind (wpAny_holding ?_))
  show wpAny _ _ (Builtin.SmallTypes.nextOf (.ref i2) >>= _) _ _ _
  refine wpAny_bind (RZ.nextOf_tuple_item (s := { s with heap := h₂ }) ((h2.extBut hs₁.extBut D.i2z).extBut hs₂.extBut D.i12.symm) ((hl2.extBut hs₁.extBut D.l2z).extBut hs₂.extBut D.l2i1) hy fun h₃ h2₃ hs₃ => wpAny_pure ?_)
  refine wpAny_pure (wpAny_pure ?_)
  show wpAny _ _ (newTuple [x, y] >>= _) _ _ _
  refine wpAny_bind (wpAny_newTuple ?_)
  have hsz : h₃.objs.size = s.heap.objs.size := by rw [hs₃.1, hs₂.1, hs₁.1]
  have hz₃ : IsZipHeld h₃ z TI TO T true := hs₃.extBut _ _ D.i2z.symm (hs₂.extBut _ _ D.i1z.symm hz₁)
  have h1₃ : h₃.IsTupleIter i1 l1 (k1 + 1) := h1₂.extBut hs₃.extBut D.i12
  have hp : IsPair (h₃.push { cls := .type "tuple", data := .seq #[x, y] }) h₃.objs.size x y := Heap.get?_push_size _ rfl
  have hz4 : (h₃.push { cls := .type "tuple", data := .seq #[x, y] }).objs.size = h₃.objs.size + 1 := Heap.size_push ..
  refine wpAny_pure ⟨.ref h₃.objs.size, rfl, wpAny_pure ?_⟩
  rw [hsz] at hp hz4 ⊢
  exact hQ _ (Heap.get?_push_of_some _ hz₃) (h1₃.at fun o e => Heap.get?_push_of_some _ e) (h2₃.at fun o e => Heap.get?_push_of_some _ e) hp hz4 fun c o c1 c2 c3 e =>
    Heap.get?_push_of_some _ (hs₃.extBut _ _ c3 (hs₂.extBut _ _ c2 (hs₁.extBut _ _ c1 e)))
theorem zt_heldEnd {z TI TO T i1 i2 l1 l2 : Addr} {f : Bool} {oT : Obj} {k1 : Nat} {xs : Array Value} {Q : Option Value → Shared → Prop} (hh : A.handled = none) (D : ZipApart z TI TO i1 i2 l1 l2)
    (hz : IsZipHeld s.heap z TI TO T f) (hT : s.heap.get? T = some oT) (hTI : IsPair s.heap TI (.ref i1) (.ref i2))
    (h1 : s.heap.IsTupleIter i1 l1 k1) (hl1 : s.heap.IsTuple l1 xs) (hx : xs[k1]? = none)
    (hQ : ∀ h', (∀ c o, c ≠ z → c ≠ i1 → c ≠ i2 → s.heap.get? c = some o → h'.get? c = some o) → Q none { s with heap := h' }) : wpAny (model prog w) A (pyNext (.ref z)) Q E s := by
  have hTy : s.TypeIs (.ref z) "zip" := ⟨_, hz, rfl⟩
  unfold pyNext
  refine wpAny_bind (wpAny_attempt (wpAny_callSpecial?_slot (name := Str.ofString "__next__") hTy F.slot_zip_next
    (wpAny_call_entry F.slot_zip_next hTy F.entry_zip_next ?_ (F.args_zip_next_1 _))))
  show wpAny _ _ (field (.ref z) 2 >>= _) _ _ _
  refine wpAny_bind (wpAny_field hz rfl (x := .bool false) rfl ?_)
  show wpAny _ _ (field (.ref z) 3 >>= _) _ _ _
  refine wpAny_bind (wpAny_field hz rfl (x := .ref TI) rfl ?_)
  refine wpAny_bind (wpAny_seqItems hTI rfl ?_)
  show wpAny _ _ (Builtin.SmallTypes.ownedTupleIsFree (.ref z) >>= _) _ _ _
  refine wpAny_bind (wpAny_tupleHeld_zip hz hT fun h₁ hz₁ hs₁ => ?_)
  simp only [Bool.false_eq_true, if_false]
  refine wpAny_bind ?_
  rw [← Array.forIn_toList]
  simp only [List.forIn_cons, List.forIn_nil]
  refine wpAny_bind (wpAny_bind (wpAny_holding ?_))
  show wpAny _ _ (Builtin.SmallTypes.nextOf (.ref i1) >>= _) _ _ _
  refine wpAny_bind (RZ.nextOf_tuple_end (s := { s with heap := h₁ }) hh (h1.extBut hs₁.extBut D.i1z) (hl1.extBut hs₁.extBut D.l1z) hx fun h₂ e hs₂ he => ?_)
  obtain ⟨o, ho, hc⟩ := he
  refine wpAny_bind (wpAny_isInstance (T := "StopIteration") (b := true) ⟨o, ho, hc⟩ isSubtype_stop ?_)
  exact wpAny_pure (hQ _ fun c o c1 c2 _ x => hs₂ _ _ c2 (hs₁.extBut _ _ c1 x))
end
/-- an iterator I whose items go into the list at S: what is known after i items vs -/
structure WkH (prog : Program) (w : World) (A : Around) (I S : Addr) (n : Nat) (kp : Addr → Prop) (St : Nat → List Value → Heap → Prop) (Fi : List Value → Heap → Prop) : Prop where
  frame : ∀ i vs h h', St i vs h → h.objs.size ≤ h'.objs.size → (∀ b o, b ≠ S → h.get? b = some o → h'.get? b = some o) → St i vs h'
  item : ∀ i vs (s : Shared) (Q : Option Value → Shared → Prop) (E : Value → Shared → Prop), i < n → St i vs s.heap →
    (∀ v h', St (i + 1) (vs ++ [v]) h' → (∀ b o, kp b → s.heap.get? b = some o → h'.get? b = some o) → Q (some v) { s with heap := h' }) → wpAny (model prog w) A (pyNext (.ref I)) Q E s
  done : ∀ vs (s : Shared) (Q : Option Value → Shared → Prop) (E : Value → Shared → Prop), St n vs s.heap → (∀ h', Fi vs h' → (∀ b o, kp b → s.heap.get? b = some o → h'.get? b = some o) → Q none { s with heap := h' }) → wpAny (model prog w) A (pyNext (.ref I)) Q E s
  self : ∀ vs (s : Shared) (Q : Value → Shared → Prop) (E : Value → Shared → Prop), St 0 vs s.heap → Q (.ref I) s → wpAny (model prog w) A (pyIter (.ref I)) Q E s
section
variable {prog : Program} {w : World} {A : Around} {s : Shared} {I S : Addr} {n : Nat} {kp : Addr → Prop} {St : Nat → List Value → Heap → Prop} {Fi : List Value → Heap → Prop}
theorem loopW {R : Result → Shared → Prop} (W : WkH prog w A.in1 I S n kp St Fi) (kS : kp S) (hn : n ≤ sizeLine) (res : Value) {h₁ : Heap}
    (hR : ∀ h' tk acc c, (∀ b o, b ≠ S → kp b → h₁.get? b = some o → h'.get? b = some o) → h'.get? S = some { cls := .type "list", dict := none, data := .seq acc c, slots := #[] } → Fi acc.toList h' → acc.size = n → R (.ok (.ret res)) { s with heap := h', toks := tk }) :
    ∀ (k i : Nat) (h : Heap) (tk c : Nat) (acc : Array Value), n - i = k → i ≤ n → St i acc.toList h → acc.size = i → (∀ b o, b ≠ S → kp b → h₁.get? b = some o → h.get? b = some o) →
      h.get? S = some { cls := .type "list", dict := none, data := .seq acc c, slots := #[] } →
      codeAny (model prog w) A (.builtin "list.extend.loop" ⟨[.ref S, .ref I, res], []⟩) R { s with heap := h, toks := tk } := by
  intro k
  induction k with
  | zero =>
    intro i h tk c acc hk hi hst hsz hkeep hS
    obtain rfl : i = n := by omega
    refine codeAny_builtin F.entry_extend_loop ?_
    rw [Around.under_plainId F.plain_extend_loop _]
    show wpAny _ A.in1 (pyNext (.ref I) >>= _) _ _ _
    refine wpAny_bind (W.done acc.toList { s with heap := h, toks := tk } _ _ hst fun h' fi kp' => ?_)
    exact wpAny_pure (hR h' tk acc c (fun b o h1 h2 e => kp' b o h2 (hkeep b o h1 h2 e)) (kp' S _ kS hS) fi hsz)
  | succ k ih =>
    intro i h tk c acc hk hi hst hsz hkeep hS
    have hlt : i < n := by omega
    refine codeAny_builtin F.entry_extend_loop ?_
    rw [Around.under_plainId F.plain_extend_loop _]
    show wpAny _ A.in1 (pyNext (.ref I) >>= _) _ _ _
    refine wpAny_bind (W.item i acc.toList { s with heap := h, toks := tk } _ _ hlt hst fun v h' st' kp' => ?_)
    dsimp only at kp' ⊢
    have hS' := kp' S _ kS hS
    have up : ∀ b o, b ≠ S → h'.get? b = some o → (h'.update S (Obj.mapSeq (·.push v))).get? b = some o := fun b o hb e => (Heap.get?_update_other _ _ (Ne.symm hb)).trans e
    show wpAny _ A.in1 (updateSeq S (·.push v) >>= _) _ _ _
    refine wpAny_bind ?_
    refine wpAny_updateSeq hS' rfl (wpAny_pure ⟨plainId_quiet F.plain_extend_loop _, ih (i + 1) _ tk _ (acc.push v) (by omega) hlt ?_ (by rw [Array.size_push, hsz])
      (fun b o h1 h2 e => up b o h1 (kp' b o h2 (hkeep b o h1 h2 e))) (Heap.get?_update_self _ hS' rfl)⟩) (by rw [hsz]; omega) (by show (acc.push v).size ≤ sizeLine + 1; rw [Array.size_push, hsz]; omega)
    rw [Array.toList_push]
    exact W.frame _ _ h' _ st' (by rw [Heap.size_update]; exact Nat.le_refl _) up
end
section
variable {prog : Program} {w : World} {A : Around} {E : Value → Shared → Prop} {s : Shared} {I : Addr} {n : Nat} {kp : Addr → Prop} {St : Nat → List Value → Heap → Prop} {Fi : List Value → Heap → Prop}
theorem list_W {T : String} {Q : Value → Shared → Prop} (hl : typeLookup (.type T) "__len__" = pure none) (hn0 : typeLookup (.type T) "__length_hint__" = pure none)
    (t2 : (Value.type T == Value.type "list") = false) (t3 : (Value.type T == Value.type "tuple") = false)
    (W : WkH prog w A.in1.in1 I s.heap.objs.size n kp St Fi) (kS : kp s.heap.objs.size) (hT : ∀ i vs (s : Shared), St i vs s.heap → s.TypeIs (.ref I) T) (hst : ∀ o, St 0 [] (s.heap.push o)) (hI : I < s.heap.objs.size)
    (hQ : ∀ h' tk acc c, (∀ b o, kp b → s.heap.get? b = some o → h'.get? b = some o) → h'.get? s.heap.objs.size = some { cls := .type "list", dict := none, data := .seq acc c, slots := #[] } → Fi acc.toList h' → acc.size = n → Q (.ref s.heap.objs.size) { s with heap := h', toks := tk }) (hn : n ≤ sizeLine) :
    wpAny (model prog w) A (call (.type "list") [.ref I]) Q E s := by
  have hSI : s.heap.objs.size ≠ I := Nat.ne_of_gt hI
  refine callType_codes (Q₁ := fun obj s₁ => obj = .ref s.heap.objs.size ∧ s₁ = { s with heap := s.heap.push { cls := .type "list", data := .seq #[] } }) F.called_list (F.typeCall_list_1 _) F.entry_list_init
    (code_list_new _ ⟨rfl, rfl⟩) fun obj s₁ h₁ => ?_
  obtain ⟨rfl, rfl⟩ := h₁
  have hS : (s.heap.push { cls := .type "list", data := .seq #[] }).get? s.heap.objs.size = some { cls := .type "list", data := .seq #[] } := Heap.get?_push_size _ rfl
  have st0 := hst { cls := .type "list", data := .seq #[] }
  refine ⟨⟨_, hS, rfl⟩, F.args_list_init_2 _ _, ?_⟩
  show wpAny _ A.in1.in1 (do let old ← Builtin.List.listItems (.ref s.heap.objs.size); Builtin.List.listUpdate (.ref s.heap.objs.size) (fun _ => #[]); letGo old.toList.reverse; Builtin.List.listExtendWith (.ref s.heap.objs.size) (.ref I) .none) _ _ _
  refine wpAny_bind ?_
  unfold Builtin.List.listItems
  refine wpAny_bind (wpAny_seqItems hS rfl (wpAny_pure ?_))
  show wpAny _ A.in1.in1 (updateSeq s.heap.objs.size (fun _ => #[]) >>= fun _ => letGo (#[] : Array Value).toList.reverse >>= fun _ => Builtin.List.listExtendWith (.ref s.heap.objs.size) (.ref I) .none) _ _ _
  refine wpAny_bind (wpAny_updateSeq hS rfl ?_)
  have hS2 := Heap.get?_update_self (Obj.mapSeq (fun _ => (#[] : Array Value))) hS rfl
  have up : ∀ (h : Heap) (f : Obj → Obj) b o, b ≠ s.heap.objs.size → h.get? b = some o → (h.update s.heap.objs.size f).get? b = some o := fun h f b o hb e => (Heap.get?_update_other _ _ (Ne.symm hb)).trans e
  have st1 := W.frame _ _ _ ((s.heap.push { cls := .type "list", data := .seq #[] }).update s.heap.objs.size (Obj.mapSeq (fun _ => (#[] : Array Value)))) st0 (by rw [Heap.size_update]; exact Nat.le_refl _) (up _ _)
  have k1 : ∀ b o, b ≠ s.heap.objs.size → kp b → s.heap.get? b = some o → ((s.heap.push { cls := .type "list", data := .seq #[] }).update s.heap.objs.size (Obj.mapSeq (fun _ => (#[] : Array Value)))).get? b = some o := fun b o hb _ e => up _ _ b o hb (Heap.get?_push_of_some _ e)
  refine wpAny_bind (wpAny_letGo ?_)
  unfold Builtin.List.listExtendWith
  refine wpAny_bind (wpAny_typeOf (T := T) (hT 0 [] { s with heap := _ } st1) ?_)
  have t1 : Builtin.List.listSameRef (.ref s.heap.objs.size) (.ref I) = false := by simp [Builtin.List.listSameRef, hSI]
  simp only [t1, t2, t3, Bool.or_false, Bool.false_eq_true, if_false]
  refine wpAny_bind (W.self [] _ _ _ st1 ?_)
  refine wpAny_bind (wpAny_holding ?_)
  unfold Builtin.List.listLengthHint
  refine wpAny_bind (wpAny_specialOf (hT 0 [] { s with heap := _ } st1) hl ?_)
  show wpAny _ A.in1.in1 (specialOf (Value.ref I) (Str.ofString "__length_hint__") >>= _) _ _ _
  refine wpAny_bind (wpAny_specialOf (hT 0 [] { s with heap := _ } st1) hn0 ?_)
  refine wpAny_pure ?_
  show wpAny _ A.in1.in1 (rule "list.extend.makes-room" >>= fun _ => Builtin.List.listTouch (.ref s.heap.objs.size) >>= fun _ =>
    again (.builtin "list.extend.loop" ⟨[.ref s.heap.objs.size, .ref I, .none], []⟩)) _ _ _
  refine wpAny_bind (wpAny_rule ?_)
  refine wpAny_bind ?_
  show wpAny _ A.in1.in1 (updateSeq s.heap.objs.size (·.push .none) >>= fun _ => updateSeq s.heap.objs.size (·.pop)) _ _ _
  refine wpAny_bind (wpAny_updateSeq hS2 rfl ?_)
  have hS3 := Heap.get?_update_self (Obj.mapSeq (·.push Value.none)) hS2 rfl
  refine wpAny_updateSeq (hz := by seq_fits) hS3 rfl ?_
  have hS4 := Heap.get?_update_self (Obj.mapSeq (·.pop)) hS3 rfl
  refine wpAny_pure ⟨plainId_quiet F.plain_extend_loop _, loopW (s := s) (R := wants (fun r s₂ => r = Value.none ∧ Q (.ref s.heap.objs.size) s₂) E) (h₁ := s.heap) W kS hn .none (fun h' tk acc c kk hS' fi hz => ⟨rfl, hQ h' tk acc c (fun b o kb e => kk b o (Nat.ne_of_lt (Heap.lt_size e)) kb e) hS' fi hz⟩) n 0 _ s.toks _ #[] (Nat.sub_zero _) (Nat.zero_le _) ?_ rfl ?_ hS4⟩
  · exact W.frame _ _ _ _ st1 (by simp only [Heap.size_update]; exact Nat.le_refl _) fun b o hb e => up _ _ b o hb (up _ _ b o hb e)
  · exact fun b o hb kb e => up _ _ b o hb (up _ _ b o hb (k1 b o hb kb e))
end
end LH

namespace LH
open PySem PySem.Spec PyProof.Rows L2
def PrsH (xs ys : Array Value) (lo : Nat) (ts : List Nat) (h : Heap) : Prop := ∀ (j : Nat) (t : Nat), ts[j]? = some t → lo ≤ t ∧ ∃ x y, xs[j]? = some x ∧ ys[j]? = some y ∧ IsPair h t x y
def ZSt (z TI TO i1 i2 l1 l2 lo : Nat) (xs ys : Array Value) : Nat → List Value → Heap → Prop := fun i vs h =>
  lo ≤ h.objs.size ∧ IsPair h TI (.ref i1) (.ref i2) ∧ h.IsTupleIter i1 l1 i ∧ h.IsTupleIter i2 l2 i ∧ h.IsTuple l1 xs ∧ h.IsTuple l2 ys ∧
  ∃ ts : List Nat, vs = ts.map Value.ref ∧ ts.length = i ∧ ts.Nodup ∧ PrsH xs ys lo ts h ∧
    ((i = 0 ∧ IsZip h z TI TO .none ∧ ∃ a b, IsPair h TO a b) ∨ ∃ (T : Nat) (f : Bool), IsZipHeld h z TI TO T f ∧ T ∈ ts)
def ZFi (lo : Nat) (xs ys : Array Value) : List Value → Heap → Prop := fun vs h => ∃ ts : List Nat, vs = ts.map Value.ref ∧ ts.Nodup ∧ PrsH xs ys lo ts h
theorem tup_at {h h' : Heap} {l : Addr} {xs : Array Value} (t : h.IsTuple l xs) (k : ∀ o, h.get? l = some o → h'.get? l = some o) : h'.IsTuple l xs := let ⟨o, ho, r⟩ := t; ⟨o, k o ho, r⟩
theorem walk_zt {prog : Program} {w : World} {A : Around} {z TI TO i1 i2 l1 l2 S lo : Nat} {xs ys : Array Value} (hh : A.handled = none) (D : ZipApart z TI TO i1 i2 l1 l2) (hxy : xs.size = ys.size)
    (b1 : z < lo) (b2 : TI < lo) (b3 : TO < lo) (b4 : i1 < lo) (b5 : i2 < lo) (b6 : S < lo) (n1 : z ≠ S) (n2 : TI ≠ S) (n3 : TO ≠ S) (n4 : i1 ≠ S) (n5 : i2 ≠ S) (n6 : l1 ≠ S) (n7 : l2 ≠ S) :
    WkH prog w A z S xs.size (fun b => b ≠ z ∧ b ≠ TO ∧ b ≠ i1 ∧ b ≠ i2) (ZSt z TI TO i1 i2 l1 l2 lo xs ys) (ZFi lo xs ys) where
  frame := fun i vs h h' ⟨a1, a2, a3, a4, a5, a6, ts, a7, a8, a9, a10, a11⟩ hs k => by
    refine ⟨Nat.le_trans a1 hs, k _ _ n2 a2, a3.at fun o e => k _ o n4 e, a4.at fun o e => k _ o n5 e, tup_at a5 fun o e => k _ o n6 e, tup_at a6 fun o e => k _ o n7 e, ts, a7, a8, a9, fun j t hj => ?_, ?_⟩
    · obtain ⟨c1, x, y, c2, c3, c4⟩ := a10 j t hj
      exact ⟨c1, x, y, c2, c3, k _ _ (by (first | omega | (show @Ne Nat _ _; omega) | (show @LT.lt Nat _ _ _; omega) | (show @LE.le Nat _ _ _; omega))) c4⟩
    · rcases a11 with ⟨c1, c2, a, b, c3⟩ | ⟨T, f, c1, c2⟩
      · exact .inl ⟨c1, k _ _ n1 c2, a, b, k _ _ n3 c3⟩
      · exact .inr ⟨T, f, k _ _ n1 c1, c2⟩
  item := fun i vs s Q E hi ⟨a1, a2, a3, a4, a5, a6, ts, a7, a8, a9, a10, a11⟩ hQ => by
    have hx : xs[i]? = some xs[i] := Array.getElem?_eq_getElem hi
    have hy : ys[i]? = some (ys[i]'(by (first | omega | (show @Ne Nat _ _; omega) | (show @LT.lt Nat _ _ _; omega) | (show @LE.le Nat _ _ _; omega)))) := Array.getElem?_eq_getElem (by (first | omega | (show @Ne Nat _ _; omega) | (show @LT.lt Nat _ _ _; omega) | (show @LE.le Nat _ _ _; omega)))
    generalize xs[i] = x at hx
    generalize ys[i]'(by (first | omega | (show @Ne Nat _ _; omega) | (show @LT.lt Nat _ _ _; omega) | (show @LE.le Nat _ _ _; omega))) = y at hy
    have old : ∀ t : Nat, t ∈ ts → lo ≤ t ∧ t < s.heap.objs.size := fun t ht => by
      obtain ⟨j, hj⟩ := List.mem_iff_getElem?.mp ht
      obtain ⟨c1, _, _, _, _, c4⟩ := a10 j t hj
      exact ⟨c1, Heap.lt_size c4⟩
    have nd : (ts ++ [s.heap.objs.size]).Nodup := List.nodup_append.mpr ⟨a9, by simp, fun t ht u hu e => by
      rw [List.mem_singleton.mp hu] at e
      have := (old t ht).2
      (first | omega | (show @Ne Nat _ _; omega) | (show @LT.lt Nat _ _ _; omega) | (show @LE.le Nat _ _ _; omega))⟩
    have prs : ∀ h' : Heap, IsPair h' s.heap.objs.size x y → (∀ c o, c ≠ z → c ≠ TO → c ≠ i1 → c ≠ i2 → s.heap.get? c = some o → h'.get? c = some o) → PrsH xs ys lo (ts ++ [s.heap.objs.size]) h' := fun h' hp hk j t hj => by
      by_cases hl : j < ts.length
      · rw [List.getElem?_append_left hl] at hj
        obtain ⟨c1, x', y', c2, c3, c4⟩ := a10 j t hj
        exact ⟨c1, x', y', c2, c3, hk _ _ (by (first | omega | (show @Ne Nat _ _; omega) | (show @LT.lt Nat _ _ _; omega) | (show @LE.le Nat _ _ _; omega))) (by (first | omega | (show @Ne Nat _ _; omega) | (show @LT.lt Nat _ _ _; omega) | (show @LE.le Nat _ _ _; omega))) (by (first | omega | (show @Ne Nat _ _; omega) | (show @LT.lt Nat _ _ _; omega) | (show @LE.le Nat _ _ _; omega))) (by (first | omega | (show @Ne Nat _ _; omega) | (show @LT.lt Nat _ _ _; omega) | (show @LE.le Nat _ _ _; omega))) c4⟩
      · rw [List.getElem?_append_right (by (first | omega | (show @Ne Nat _ _; omega) | (show @LT.lt Nat _ _ _; omega) | (show @LE.le Nat _ _ _; omega)))] at hj
        have e : j - ts.length = 0 := by
          cases q : j - ts.length with
          | zero => rfl
          | succ k =>
            rw [q] at hj
            simp at hj
        rw [e] at hj
        cases hj
        have ej : j = i := by (first | omega | (show @Ne Nat _ _; omega) | (show @LT.lt Nat _ _ _; omega) | (show @LE.le Nat _ _ _; omega))
        subst ej
        exact ⟨a1, x, y, hx, hy, hp⟩
    rcases a11 with ⟨c1, c2, a, b, c3⟩ | ⟨T, f, c1, c2⟩
    · refine RZ.pyNext_zipT_item D c2 a2 c3 a3 a4 a5 a6 hx hy fun h' z' TO' h1' h2' hT hsz hk => ?_
      refine hQ _ h' ⟨by (first | omega | (show @Ne Nat _ _; omega) | (show @LT.lt Nat _ _ _; omega) | (show @LE.le Nat _ _ _; omega)), hk _ _ D.TIz D.TITO D.TIi1 D.TIi2 a2, h1', h2', tup_at a5 fun o e => hk _ o D.l1z D.l1TO D.l1i1 D.l1i2 e, tup_at a6 fun o e => hk _ o D.l2z D.l2TO D.l2i1 D.l2i2 e, ts ++ [s.heap.objs.size], ?_, ?_, nd, prs h' hT hk, .inr ⟨s.heap.objs.size, false, z', List.mem_append_right _ (List.mem_singleton.mpr rfl)⟩⟩ fun b o kb e => hk b o kb.1 kb.2.1 kb.2.2.1 kb.2.2.2 e
      · rw [a7, List.map_append]
        rfl
      · rw [List.length_append, a8]
        rfl
    · obtain ⟨j, hj⟩ := List.mem_iff_getElem?.mp c2
      obtain ⟨_, _, _, _, _, c4⟩ := a10 j T hj
      refine zt_held D c1 c4 a2 a3 a4 a5 a6 hx hy fun h' z' h1' h2' hT hsz hk => ?_
      refine hQ _ h' ⟨by (first | omega | (show @Ne Nat _ _; omega) | (show @LT.lt Nat _ _ _; omega) | (show @LE.le Nat _ _ _; omega)), hk _ _ D.TIz D.TIi1 D.TIi2 a2, h1', h2', tup_at a5 fun o e => hk _ o D.l1z D.l1i1 D.l1i2 e, tup_at a6 fun o e => hk _ o D.l2z D.l2i1 D.l2i2 e, ts ++ [s.heap.objs.size], ?_, ?_, nd, prs h' hT fun c o q1 _ q3 q4 e => hk c o q1 q3 q4 e, .inr ⟨T, true, z', List.mem_append_left _ c2⟩⟩ fun b o kb e => hk b o kb.1 kb.2.2.1 kb.2.2.2 e
      · rw [a7, List.map_append]
        rfl
      · rw [List.length_append, a8]
        rfl
  done := fun vs s Q E ⟨a1, a2, a3, a4, a5, a6, ts, a7, a8, a9, a10, a11⟩ hQ => by
    have hx : xs[xs.size]? = none := Array.getElem?_eq_none (Nat.le_refl _)
    have prs : ∀ h' : Heap, (∀ c o, c ≠ z → c ≠ TO → c ≠ i1 → c ≠ i2 → s.heap.get? c = some o → h'.get? c = some o) → PrsH xs ys lo ts h' := fun h' hk j t hj => by
      obtain ⟨c1, x', y', c2, c3, c4⟩ := a10 j t hj
      exact ⟨c1, x', y', c2, c3, hk _ _ (by (first | omega | (show @Ne Nat _ _; omega) | (show @LT.lt Nat _ _ _; omega) | (show @LE.le Nat _ _ _; omega))) (by (first | omega | (show @Ne Nat _ _; omega) | (show @LT.lt Nat _ _ _; omega) | (show @LE.le Nat _ _ _; omega))) (by (first | omega | (show @Ne Nat _ _; omega) | (show @LT.lt Nat _ _ _; omega) | (show @LE.le Nat _ _ _; omega))) (by (first | omega | (show @Ne Nat _ _; omega) | (show @LT.lt Nat _ _ _; omega) | (show @LE.le Nat _ _ _; omega))) c4⟩
    rcases a11 with ⟨c1, c2, a, b, c3⟩ | ⟨T, f, c1, c2⟩
    · exact RZ.pyNext_zipT_end hh D c2 a2 c3 a3 a4 a5 a6 (.inl hx) fun h' hk => hQ h' ⟨ts, a7, a9, prs h' hk⟩ fun b o kb e => hk b o kb.1 kb.2.1 kb.2.2.1 kb.2.2.2 e
    · obtain ⟨j, hj⟩ := List.mem_iff_getElem?.mp c2
      obtain ⟨_, _, _, _, _, c4⟩ := a10 j T hj
      exact zt_heldEnd hh D c1 c4 a2 a3 a5 hx fun h' hk => hQ h' ⟨ts, a7, a9, prs h' fun c o q1 _ q3 q4 e => hk c o q1 q3 q4 e⟩ fun b o kb e => hk b o kb.1 kb.2.2.1 kb.2.2.2 e
  self := fun vs s Q E ⟨_, _, _, _, _, _, ts, _, a8, _, _, a11⟩ h => by
    rcases a11 with ⟨c1, c2, _⟩ | ⟨T, f, c1, c2⟩
    · exact wpAny_pyIter_zip c2 h
    · rw [List.length_eq_zero_iff.mp a8] at c2
      exact absurd c2 (by simp)
theorem zt_type {z TI TO i1 i2 l1 l2 lo : Nat} {xs ys : Array Value} (i : Nat) (vs : List Value) (s : Shared) (h : ZSt z TI TO i1 i2 l1 l2 lo xs ys i vs s.heap) : s.TypeIs (.ref z) "zip" := by
  obtain ⟨_, _, _, _, _, _, ts, _, _, _, _, a11⟩ := h
  rcases a11 with ⟨c1, c2, _⟩ | ⟨T, f, c1, c2⟩
  · exact ⟨_, c2, rfl⟩
  · exact ⟨_, c1, rfl⟩
theorem zip_nolen : typeLookup (.type "zip") "__len__" = pure none := by rw [typeLookup_type, builtinLookup_eq_fast]; kernel_rfl
theorem zip_nohint : typeLookup (.type "zip") "__length_hint__" = pure none := by rw [typeLookup_type, builtinLookup_eq_fast]; kernel_rfl
/-- pairs of the parts of two rows -/
def PrV (H : Hp) (xs ys : List V) (bas : List Addr) : Prop := bas.length = xs.length ∧ ∀ (j : Nat) (c : Addr), bas[j]? = some c → ∃ x y, xs[j]? = some x ∧ ys[j]? = some y ∧ H c = some (.tup [x, y])
def tListZip (K : PySem.W.Frag) (ta : TA) : TE := fun σ H Q => ta σ H fun vs H1 => ∃ (a b : Addr) (xs ys : List V), vs = [.ref a, .ref b] ∧ SqT K H1 a xs ∧ SqT K H1 b ys ∧ xs.length = ys.length ∧
  ∀ (H' : Hp) (p : Addr) (bas : List Addr), Same H1 H' → H1 p = none → H' p = some (.lst (vr bas)) → PrV H' xs ys bas → Q (.ref p) H'
theorem pe_listZip {X : Cx} {e e2 : Expr} {ta : TA} {p p2 q pos : Pos} (K : PySem.W.Frag) (hK : X.K = K) (hg : Gl X "list") (hm : X.mg "list" = none) (hg2 : Gl X "zip") (hm2 : X.mg "zip" = none) (ha : PA X [e, e2] ta) (hc : X.calm = true := by rfl)
    (hs : starEach [e, e2] X.env = (false, eval e X.env) :: starEach [e2] X.env := by rfl) (hpl : (backTo q (starEach [e2] X.env)).any (·.1) = false := by rfl) : PE X (.Call (.Name "list" p) [.Call (.Name "zip" p2) [e, e2] [] q] [] pos) (tListZip K ta) := by
  subst hK
  refine ⟨fun pins s σ H Q I h => ?_⟩
  refine Call_ (ld_blt I hg hm boot_list ?_)
  refine callWith_type1 (args_cons ?_ rfl) rfl rfl
  refine Call_ (ld_blt I hg2 hm2 boot_zip ?_)
  refine callWith_type1 (thn (ha.run q pins s σ H _ I h) fun us s1 ⟨vs, H1, I1, r1, q1⟩ => ?_) hs hpl
  obtain ⟨a, b, xs, ys, rfl, hqx, hqy, hlen, q1⟩ := q1
  cases r1 with
  | cons r rr =>
    cases rr with
    | cons r' rr =>
      cases rr
      cases r
      cases r'
      obtain ⟨its, rv, p1, hz1⟩ := I1.tuple hqx
      obtain ⟨its2, rv2, p2', _⟩ := I1.tuple hqy
      obtain ⟨o1, ho1, _⟩ := id p1
      obtain ⟨o2, ho2, _⟩ := id p2'
      have la : @LT.lt Nat _ a s1.heap.objs.size := Heap.lt_size ho1
      have lb : @LT.lt Nat _ b s1.heap.objs.size := Heap.lt_size ho2
      have l1 := rv.length
      have l2 := rv2.length
      refine RZ.call_zipT (show s1.heap.IsTuple a its.toArray from p1) (show s1.heap.IsTuple b its2.toArray from p2') fun h' hz hTI hTO h1 h2 hsz hk => ?_
      refine args_nil ?_
      have D := PySem.W.ktu_apart s1.heap.objs.size a b la lb
      have hh : X.A.handled = none := I1.ok.hd hc
      have W := walk_zt (prog := X.prog) (w := X.w) (A := X.A.in1.in1) (S := h'.objs.size) (lo := h'.objs.size + 1) (xs := its.toArray) (ys := its2.toArray) hh D (by rw [List.size_toArray, List.size_toArray]; (first | omega | (show @Ne Nat _ _; omega) | (show @LT.lt Nat _ _ _; omega) | (show @LE.le Nat _ _ _; omega)))
        (by (first | omega | (show @Ne Nat _ _; omega) | (show @LT.lt Nat _ _ _; omega) | (show @LE.le Nat _ _ _; omega))) (by (first | omega | (show @Ne Nat _ _; omega) | (show @LT.lt Nat _ _ _; omega) | (show @LE.le Nat _ _ _; omega))) (by (first | omega | (show @Ne Nat _ _; omega) | (show @LT.lt Nat _ _ _; omega) | (show @LE.le Nat _ _ _; omega))) (by (first | omega | (show @Ne Nat _ _; omega) | (show @LT.lt Nat _ _ _; omega) | (show @LE.le Nat _ _ _; omega))) (by (first | omega | (show @Ne Nat _ _; omega) | (show @LT.lt Nat _ _ _; omega) | (show @LE.le Nat _ _ _; omega))) (by (first | omega | (show @Ne Nat _ _; omega) | (show @LT.lt Nat _ _ _; omega) | (show @LE.le Nat _ _ _; omega))) (by (first | omega | (show @Ne Nat _ _; omega) | (show @LT.lt Nat _ _ _; omega) | (show @LE.le Nat _ _ _; omega))) (by (first | omega | (show @Ne Nat _ _; omega) | (show @LT.lt Nat _ _ _; omega) | (show @LE.le Nat _ _ _; omega))) (by (first | omega | (show @Ne Nat _ _; omega) | (show @LT.lt Nat _ _ _; omega) | (show @LE.le Nat _ _ _; omega))) (by (first | omega | (show @Ne Nat _ _; omega) | (show @LT.lt Nat _ _ _; omega) | (show @LE.le Nat _ _ _; omega))) (by (first | omega | (show @Ne Nat _ _; omega) | (show @LT.lt Nat _ _ _; omega) | (show @LE.le Nat _ _ _; omega))) (by (first | omega | (show @Ne Nat _ _; omega) | (show @LT.lt Nat _ _ _; omega) | (show @LE.le Nat _ _ _; omega))) (by (first | omega | (show @Ne Nat _ _; omega) | (show @LT.lt Nat _ _ _; omega) | (show @LE.le Nat _ _ _; omega)))
      refine list_W (s := { s1 with heap := h' }) zip_nolen zip_nohint (by decide) (by decide) W ⟨by show h'.objs.size ≠ _; omega, by show h'.objs.size ≠ _; omega, by show h'.objs.size ≠ _; omega, by show h'.objs.size ≠ _; (first | omega | (show @Ne Nat _ _; omega) | (show @LT.lt Nat _ _ _; omega) | (show @LE.le Nat _ _ _; omega))⟩ (fun i vs s st => zt_type i vs s st) (fun o => ?_) (by show _ < h'.objs.size; (first | omega | (show @Ne Nat _ _; omega) | (show @LT.lt Nat _ _ _; omega) | (show @LE.le Nat _ _ _; omega))) (fun h2 tk acc c kk hS fi hn => ?_) (by rw [List.size_toArray, ← l1]; exact hz1)
      · exact ⟨by show _ ≤ (h'.push o).objs.size; rw [Heap.size_push]; exact Nat.le_refl _, Heap.get?_push_of_some _ hTI, h1.at fun o e => Heap.get?_push_of_some _ e, h2.at fun o e => Heap.get?_push_of_some _ e, tup_at p1 fun o e => Heap.get?_push_of_some _ (hk _ _ e), tup_at p2' fun o e => Heap.get?_push_of_some _ (hk _ _ e), [], rfl, rfl, List.nodup_nil, fun j t hj => by simp at hj, .inl ⟨rfl, Heap.get?_push_of_some _ hz, _, _, Heap.get?_push_of_some _ hTO⟩⟩
      · obtain ⟨ts, ea, nd, prs⟩ := fi
        dsimp only at kk hS
        have up : ∀ b o, s1.heap.get? b = some o → h2.get? b = some o := fun b o e => by
          have : @LT.lt Nat _ b s1.heap.objs.size := Heap.lt_size e
          exact kk b o ⟨by (first | omega | (show @Ne Nat _ _; omega) | (show @LT.lt Nat _ _ _; omega) | (show @LE.le Nat _ _ _; omega)), by (first | omega | (show @Ne Nat _ _; omega) | (show @LT.lt Nat _ _ _; omega) | (show @LE.le Nat _ _ _; omega)), by (first | omega | (show @Ne Nat _ _; omega) | (show @LT.lt Nat _ _ _; omega) | (show @LE.le Nat _ _ _; omega)), by (first | omega | (show @Ne Nat _ _; omega) | (show @LT.lt Nat _ _ _; omega) | (show @LE.le Nat _ _ _; omega))⟩ (hk b o e)
        have hts : ts.length = xs.length := by
          have : acc.toList.length = ts.length := by rw [ea, List.length_map]
          rw [Array.length_toList, hn, List.size_toArray] at this
          omega
        have I2 : Inv X pins σ (upd H1 h'.objs.size (.lst (vr ts))) { s1 with heap := h2, toks := tk } := I1.laid (t' := tk) (a := h'.objs.size) (o := .lst (vr ts)) up (by (first | omega | (show @Ne Nat _ _; omega) | (show @LT.lt Nat _ _ _; omega) | (show @LE.le Nat _ _ _; omega))) ⟨by rw [List.length_map, hts]; exact hz1, acc.toList, c, by rw [ea]; exact vals_refs ts, by rw [Array.toArray_toList]; exact hS⟩
        have fS : H1 h'.objs.size = none := I1.hok.fresh (by (first | omega | (show @Ne Nat _ _; omega) | (show @LT.lt Nat _ _ _; omega) | (show @LE.le Nat _ _ _; omega)))
        obtain ⟨H2, I3, g, trk⟩ := L2.DX.takeT (P := fun c vs => ∀ j, ts[j]? = some c → ∃ x y, xs[j]? = some x ∧ ys[j]? = some y ∧ vs = [x, y]) I1 ts _ I2 nd fun c hc => by
          obtain ⟨j, hj⟩ := List.mem_iff_getElem?.mp hc
          obtain ⟨hlo, u, u2, hu, hu2, hp⟩ := prs j c hj
          obtain ⟨x, hx, rx⟩ := L2.DX.pget rv (by simpa using hu)
          obtain ⟨y, hy, ry⟩ := L2.DX.pget rv2 (by simpa using hu2)
          refine ⟨by (first | omega | (show @Ne Nat _ _; omega) | (show @LT.lt Nat _ _ _; omega) | (show @LE.le Nat _ _ _; omega)), by rw [upd_ne (by (first | omega | (show @Ne Nat _ _; omega) | (show @LT.lt Nat _ _ _; omega) | (show @LE.le Nat _ _ _; omega)))]; exact I1.hok.fresh (by (first | omega | (show @Ne Nat _ _; omega) | (show @LT.lt Nat _ _ _; omega) | (show @LE.le Nat _ _ _; omega))), [x, y], fun j' hj' => ?_, fun H2 => ⟨by show 2 ≤ sizeLine; decide, [u, u2], .cons rx (.cons ry .nil), ⟨_, hp, rfl, _, rfl⟩⟩⟩
          have ej : j' = j := by
            have d1 := (List.getElem?_eq_some_iff.mp hj').1
            have d2 := (List.getElem?_eq_some_iff.mp hj).1
            exact (List.getElem_inj nd).mp (by rw [(List.getElem?_eq_some_iff.mp hj').2, (List.getElem?_eq_some_iff.mp hj).2])
          subst ej
          exact ⟨x, y, hx, hy, rfl⟩
        refine ⟨.ref h'.objs.size, H2, I3, rfl, q1 H2 h'.objs.size ts (fun b o e => g b o (by rw [upd_ne (ne_of_none e fS)]; exact e)) fS (g _ _ upd_same) ⟨hts, fun j c hj => ?_⟩⟩
        obtain ⟨vs, hv, e⟩ := trk c (List.mem_of_getElem? hj)
        obtain ⟨x, y, hx, hy, rfl⟩ := hv j hj
        exact ⟨x, y, hx, hy, e⟩
end LH

namespace LH
open PySem PySem.Spec PyProof.Rows L2 NdefX LamX
/-! ### x in t, t a tuple of data of any depth -/
def rInDT (K : PySem.W.Frag) : R2 := fun x y H Q => ∃ d ds, Dp K H x d ∧ Dp K H y (.tuple ds) ∧ SeqAt.shaped d = true ∧ SeqAt.shaped (.tuple ds) = true ∧ Q (.bl (ds.any fun z => PyData.eqv z d)) H
theorem op_inDT {X : Cx} (K : PySem.W.Frag) (hK : X.K = K) (hu : X.A.units + 65 < cLine) : OpR X (compareOp .In) (rInDT K) := by
  subst hK
  intro pins s σ H x y v u Q I rx ry h
  obtain ⟨d, ds, hd, he, sd, se, q⟩ := h
  obtain ⟨as, r1⟩ := Dp.reads I d x v hd rx
  obtain ⟨bs, r2⟩ := Dp.reads I (.tuple ds) y u he ry
  exact SeqAt.in_tuple_reads r2 r1 (SeqAt.canLay_of_shaped se) (SeqAt.canLay_of_shaped sd) (room_in_shaped sd hu) ⟨.bl _, H, I, rfl, q⟩
abbrev dB (b : Bool × Bool) : PyData := .tuple [.bool b.1, .bool b.2]
abbrev dW (bs : List (Bool × Bool)) : List PyData := bs.map dB
def WA (H : Hp) : List Addr → List (Bool × Bool) → Prop
  | [], [] => True
  | q :: qs, b :: bs => H q = some (.tup [.bl b.1, .bl b.2]) ∧ WA H qs bs
  | _, _ => False
theorem WA.mono {H H' : Hp} (k : ∀ b xs, H b = some (.tup xs) → H' b = some (.tup xs)) : ∀ {qs : List Addr} {bs : List (Bool × Bool)}, WA H qs bs → WA H' qs bs
  | [], [], _ => trivial
  | _ :: _, _ :: _, h => ⟨k _ _ h.1, WA.mono k h.2⟩
  | [], _ :: _, h => h.elim
  | _ :: _, [], h => h.elim
theorem WA.dp {K : PySem.W.Frag} {H : Hp} : ∀ {qs : List Addr} {bs : List (Bool × Bool)}, WA H qs bs → DpAll K H (vr qs) (dW bs)
  | [], [], _ => .nil
  | _ :: _, _ :: _, h => .cons (.tup (.inl (.inl h.1)) (.cons (.bl _) (.cons (.bl _) .nil))) (WA.dp h.2)
  | [], _ :: _, h => h.elim
  | _ :: _, [], h => h.elim
theorem eqv_dB (a b : Bool × Bool) : PyData.eqv (dB a) (dB b) = decide (a = b) := by
  obtain ⟨a1, a2⟩ := a
  obtain ⟨b1, b2⟩ := b
  cases a1 <;> cases a2 <;> cases b1 <;> cases b2 <;> decide
theorem any_dW (b : Bool × Bool) : ∀ bs : List (Bool × Bool), ((dW bs).any fun z => PyData.eqv z (dB b)) = decide (b ∈ bs)
  | [] => by simp
  | a :: bs => by
    show (PyData.eqv (dB a) (dB b) || (dW bs).any fun z => PyData.eqv z (dB b)) = _
    rw [any_dW b bs, eqv_dB]
    by_cases z : a = b
    · subst z
      simp
    · have z' : ¬ b = a := fun e => z e.symm
      simp [z, z']
theorem room65 {k : Nat} {A : Around} (r : Room k A) : A.units + 65 < cLine := by have := r.un; omega
section
variable {P : Program} {w : World} {K : PySem.W.Frag} {mg : Str → Option Value} {base : Heap}
/-! ### the functions that paired makes -/
abbrev st_follow2 : Stmt := (defBody s_paired).getD 4 (.Pass ⟨0, 0, 0, 0⟩)
abbrev st_is_end2 : Stmt := (defBody s_paired).getD 5 (.Pass ⟨0, 0, 0, 0⟩)
abbrev q_follow2 : Str := (("paired" : Str) ++ ".<locals>.") ++ "follow"
abbrev q_is_end2 : Str := (("paired" : Str) ++ ".<locals>.") ++ "is_end"
abbrev nf_follow2 (cl : List (Str × Addr)) (c : Addr) : NF := NF.of st_follow2 "follow" q_follow2 cl c
abbrev nf_is_end2 (cl : List (Str × Addr)) (c : Addr) : NF := NF.of st_is_end2 "is_end" q_is_end2 cl c
def sp_follow2 : List (Option V) → Sp := fun ws vs H Q _ => ∃ (t1 t2 a1 a2 p : Addr) (as1 as2 : List Addr) (r1 r2 : List Nat) (s1 s2 : Nat), ws = [some (.ref t1), some (.ref t2)] ∧ vs = [.ref p] ∧ H p = some (.tup [.int (s1 : Int), .int (s2 : Int)]) ∧
  H t1 = some (.tup (vr as1)) ∧ as1[s1]? = some a1 ∧ H a1 = some (.tup (vi r1)) ∧ H t2 = some (.tup (vr as2)) ∧ as2[s2]? = some a2 ∧ H a2 = some (.tup (vi r2)) ∧ r1.length = r2.length ∧
  ∀ H' b bas, Same H H' → H b = none → H' b = some (.lst (vr bas)) → PrV H' (vi r1) (vi r2) bas → Q (.ref b) H'
theorem ok_follow2 (T : TX K mg) {f c : Addr} {cl : List (Str × Addr)} : NOk P w K mg base CX0 1 f (nf_follow2 cl c) ["pair"] ["first_table", "second_table"] sp_follow2 := by
  refine nok_of (N := ["pair", "first_table", "second_table", "first", "second"]) (nscope_by (by kernel_rfl)) (fun doc pm ctv us hl => match us, hl with | [_], _ => rfl) (fun ws vs H Q E h => ?_) (fun A outer s H vs ws Q E hr hf hc hl h => ?_)
  · obtain ⟨t1, t2, a1, a2, p, as1, as2, r1, r2, s1, s2, rfl, rfl, _⟩ := h
    rfl
  · obtain ⟨t1, t2, a1, a2, p, as1, as2, r1, r2, s1, s2, rfl, rfl, hp, ht1, ha1, hr1, ht2, ha2, hr2, hl12, q⟩ := h
    have nd : (["pair", "first_table", "second_table", "first", "second"] : List Str).Nodup := by decide
    refine ⟨_, PSs.nox (pss_cons (ps_asg (pv 0) (pg_tupK (n := 2) K rfl (by rfl) (pgs_cons (pg_name (i := 3) nd rfl (Or.inl rfl)) (pgs_cons (pg_name (i := 4) nd rfl (Or.inl rfl)) pgs_nil))))
      (pss_one (ps_ret (pe_listZip K rfl (by rfl) T.m_list (by rfl) T.m_zip (pa_cons (pe_ix (ix_tupK K rfl) (pv 1) (pv 3) (fun _ _ => rfl)) (pa_cons (pe_ix (ix_tupK K rfl) (pv 2) (pv 4) (fun _ _ => rfl)) pa_nil)))))), ?_⟩
    refine ⟨.ref p, rfl, p, _, rfl, .inl (.inl hp), rfl, .int (s1 : Int), _, rfl, .int (s2 : Int), [], rfl, rfl, ?_⟩
    refine ⟨.ref t1, rfl, .int (s1 : Int), rfl, t1, _, (s1 : Int), .ref a1, rfl, rfl, .inl (.inl ht1), atI_nat ?_, .ref t2, rfl, .int (s2 : Int), rfl, t2, _, (s2 : Int), .ref a2, rfl, rfl, .inl (.inl ht2), atI_nat ?_, a1, a2, _, _, rfl, .inl (.inl hr1), .inl (.inl hr2), ?_, q⟩
    · rw [List.getElem?_map, ha1]
      rfl
    · rw [List.getElem?_map, ha2]
      rfl
    · rw [List.length_map, List.length_map]
      exact hl12
def sp_is_end2 : List (Option V) → Sp := fun ws vs H Q _ => ∃ (m1 m2 wt p : Addr) (qs : List Addr) (bs1 bs2 : List Bool) (b1 b2 : Bool) (wbs : List (Bool × Bool)) (s1 s2 : Nat), ws = [some (.ref m1), some (.ref m2), some (.ref wt)] ∧ vs = [.ref p] ∧ H p = some (.tup [.int (s1 : Int), .int (s2 : Int)]) ∧
  H m1 = some (.lst (bs1.map V.bl)) ∧ bs1[s1]? = some b1 ∧ H m2 = some (.lst (bs2.map V.bl)) ∧ bs2[s2]? = some b2 ∧ H wt = some (.tup (vr qs)) ∧ WA H qs wbs ∧ SeqAt.shaped (.tuple (dW wbs)) = true ∧
  ∀ H', Same H H' → Q (.bl (decide ((b1, b2) ∈ wbs))) H'
theorem ok_is_end2 {f c : Addr} {cl : List (Str × Addr)} : NOk P w K mg base CX0 1 f (nf_is_end2 cl c) ["pair"] ["first_marks", "second_marks", "wanted"] sp_is_end2 := by
  refine nok_of (N := ["pair", "first_marks", "second_marks", "wanted", "first", "second"]) (nscope_by (by kernel_rfl)) (fun doc pm ctv us hl => match us, hl with | [_], _ => rfl) (fun ws vs H Q E h => ?_) (fun A outer s H vs ws Q E hr hf hc hl h => ?_)
  · obtain ⟨m1, m2, wt, p, qs, bs1, bs2, b1, b2, wbs, s1, s2, rfl, rfl, _⟩ := h
    rfl
  · obtain ⟨m1, m2, wt, p, qs, bs1, bs2, b1, b2, wbs, s1, s2, rfl, rfl, hp, hm1, hb1, hm2, hb2, hwt, wa, sh, q⟩ := h
    have nd : (["pair", "first_marks", "second_marks", "wanted", "first", "second"] : List Str).Nodup := by decide
    refine ⟨_, PSs.nox (pss_cons (ps_asg (pv 0) (pg_tupK (n := 2) K rfl (by rfl) (pgs_cons (pg_name (i := 4) nd rfl (Or.inl rfl)) (pgs_cons (pg_name (i := 5) nd rfl (Or.inl rfl)) pgs_nil))))
      (pss_one (ps_ret (pe_cmpR (op_inDT K rfl (room65 hr)) (pe_tup (pa_cons (pe_ix (ix_listK K rfl) (pv 1) (pv 4) (fun _ _ => rfl)) (pa_cons (pe_ix (ix_listK K rfl) (pv 2) (pv 5) (fun _ _ => rfl)) pa_nil))) (pv 3) (by rfl))))), ?_⟩
    refine ⟨.ref p, rfl, p, _, rfl, .inl (.inl hp), rfl, .int (s1 : Int), _, rfl, .int (s2 : Int), [], rfl, rfl, ?_⟩
    refine ⟨.ref m1, rfl, .int (s1 : Int), rfl, m1, _, (s1 : Int), .bl b1, rfl, rfl, .inl (.inl hm1), atI_nat ?_, .ref m2, rfl, .int (s2 : Int), rfl, m2, _, (s2 : Int), .bl b2, rfl, rfl, .inl (.inl hm2), atI_nat ?_, by show 2 ≤ sizeLine; decide, fun t nt => ?_⟩
    · rw [List.getElem?_map, hb1]
      rfl
    · rw [List.getElem?_map, hb2]
      rfl
    · refine ⟨.ref wt, rfl, dB (b1, b2), dW wbs, .tup (.inl (.inl upd_same)) (.cons (.bl _) (.cons (.bl _) .nil)), .tup (.inl (.inl (same_new nt _ _ hwt))) (WA.dp (wa.mono fun b xs e => same_new nt _ _ e)), ?_, sh, ?_⟩
      · cases b1 <;> cases b2 <;> decide
      · rw [any_dW]
        exact q _ (same_new nt)
end
end LH

namespace LH
open PySem PySem.Spec PyProof.Rows L2 NdefX LamX
theorem free_follow2 : ∀ y ∈ (C8.fnScope st_follow2).names, y.2 = .free → (defScope s_paired).names.lookup y.1 = some .cell ∨ (defScope s_paired).names.lookup y.1 = some .free := by decide +kernel
theorem free_is_end2 : ∀ y ∈ (C8.fnScope st_is_end2).names, y.2 = .free → (defScope s_paired).names.lookup y.1 = some .cell ∨ (defScope s_paired).names.lookup y.1 = some .free := by decide +kernel
def nm_paired : Nat → Nat → Str := fun l _ => if l = lineOf st_follow2 then q_follow2 else q_is_end2
abbrev xP (P : Program) (w : World) (K : PySem.W.Frag) (mg : Str → Option Value) (base : Heap) (f c : Addr) (A : Around) (outer : List Env) (s : Shared) (H : Hp) (E : XK) : Cx := (cxOf CX0 P w K mg base N_paired "paired" (defScope s_paired) f (.ref c) A outer s H E).nox
/-- the pair's row: pairs of the two rows' states -/
def pRow (M1 M2 : Mach) (s : Nat) : List Nat := (M1.rows.getD (s / M2.rows.length) []).zipWith (fun a b => a * M2.rows.length + b) (M2.rows.getD (s % M2.rows.length) [])
def pFin (M1 M2 : Mach) (wbs : List (Bool × Bool)) (s : Nat) : Bool := decide ((decide (s / M2.rows.length ∈ M1.ends), decide (s % M2.rows.length ∈ M2.ends)) ∈ wbs)
theorem pr_lt {n1 n2 a b : Nat} (ha : a < n1) (hb : b < n2) : a * n2 + b < n1 * n2 := by
  have h := Nat.mul_le_mul_right n2 (show a + 1 ≤ n1 from ha)
  rw [Nat.add_mul, Nat.one_mul] at h
  omega
theorem pr_div {n2 a b : Nat} (hb : b < n2) : (a * n2 + b) / n2 = a := by
  rw [Nat.mul_comm, Nat.mul_add_div (by omega), Nat.div_eq_of_lt hb, Nat.add_zero]
theorem pr_mod {n2 a b : Nat} (hb : b < n2) : (a * n2 + b) % n2 = b := by
  rw [Nat.mul_comm, Nat.mul_add_mod, Nat.mod_eq_of_lt hb]
section
variable {P : Program} {w : World} {K : PySem.W.Frag} {mg : Str → Option Value} {base : Heap}
theorem cap_f2 {f c : Addr} {A : Around} {outer : List Env} {s : Shared} {H : Hp} {E : XK} (ok : (xP P w K mg base f c A outer s H E).Ok) : Caps (xP P w K mg base f c A outer s H E) (cloFrom (xP P w K mg base f c A outer s H E).env.cells (C8.fnScope st_follow2).names []) ["first_table", "second_table"] [5, 6] := Caps.made ok free_follow2 (by decide +kernel) rfl
theorem cap_e2 {f c : Addr} {A : Around} {outer : List Env} {s : Shared} {H : Hp} {E : XK} (ok : (xP P w K mg base f c A outer s H E).Ok) : Caps (xP P w K mg base f c A outer s H E) (cloFrom (xP P w K mg base f c A outer s H E).env.cells (C8.fnScope st_is_end2).names []) ["first_marks", "second_marks", "wanted"] [3, 4, 2] := Caps.made ok free_is_end2 (by decide +kernel) rfl
theorem cap_a2 {f c : Addr} {A : Around} {outer : List Env} {s : Shared} {H : Hp} {E : XK} : Caps (xP P w K mg base f c A outer s H E) (xP P w K mg base f c A outer s H E).env.cells ["first_table", "second_table", "first_marks", "second_marks", "wanted"] [5, 6, 3, 4, 2] := ⟨fun _ _ e => e, by
  intro y hy
  simp only [List.mem_cons, List.mem_nil_iff, or_false] at hy
  rcases hy with rfl | rfl | rfl | rfl | rfl
  · exact .inl rfl
  · exact .inl rfl
  · exact .inl rfl
  · exact .inl rfl
  · exact .inl rfl, fun _ _ _ e => e, rfl⟩
def sp_paired (tabs : List NTab) : Sp := fun vs H Q _ => ∃ (m1 m2 wt : Addr) (M1 M2 : Mach) (qs : List Addr) (wbs : List (Bool × Bool)), vs = [.ref m1, .ref m2, .ref wt] ∧ MachAt H m1 M1 ∧ M1.Ok ∧ MachAt H m2 M2 ∧ M2.Ok ∧ M2.z = M1.z ∧ H wt = some (.tup (vr qs)) ∧ WA H qs wbs ∧ SeqAt.shaped (.tuple (dW wbs)) = true ∧ M1.rows.length * M2.rows.length ≤ 1000000 ∧ TabsN tabs H ∧
  ∀ H' p (M' : Mach) ks tbl hl, ExtN H H' → TabsN tabs H' → MachAt H' p M' → M'.z = M1.z → BuiltOk (M1.rows.length * M2.rows.length) M1.z.length (pRow M1 M2) 0 (pFin M1 M2 wbs) M' ks tbl hl → Q (.ref p) H'
theorem ok_paired (T : TX K mg) {c PT : Addr} {tabs : List NTab} (F : FunC K "paired" "paired" s_paired T.a_paired T.fd_paired c) (TB : TabB base mg c PT) (hin : (PT, nm_paired) ∈ tabs) (huq : ∀ p ∈ tabs, p.1 = PT → p.2 = nm_paired) : FnOk P w K mg base CX0 7 T.a_paired T.fd_paired ["one", "other", "wanted"] (sp_paired tabs) := by
  have G_end_marks : FnOk P w K mg base CX0 1 T.a_end_marks T.fd_end_marks ["machine"] sp_end_marks := ok_end_marks T
  have G_built : FnOk P w K mg base CX0 6 T.a_built T.fd_built ["letters", "start", "follow", "is_end"] (sp_built2 P w K mg base) := ok_built2 T
  refine F.ok sc_paired (fun vs H Q E h => ?_) (fun A outer s H vs Q E hr h => ?_)
  · obtain ⟨m1, m2, wt, M1, M2, qs, wbs, rfl, _⟩ := h
    rfl
  · obtain ⟨m1, m2, wt, M1, M2, qs, wbs, rfl, hM1, k1, hM2, k2, hz, hwt, wa, sh, hb, tb0, q⟩ := h
    have hb1 : M1.rows.length ≤ 1000000 := Nat.le_trans (Nat.le_mul_of_pos_right _ k2.many) hb
    have hb2 : M2.rows.length ≤ 1000000 := Nat.le_trans (Nat.le_mul_of_pos_left _ k1.many) hb
    refine ⟨_, (pss_cons (ps_set (i := 3) sc_paired.nd rfl (Or.inr rfl) (pe_call G_end_marks (hr.mono (by decide)) (by rfl) T.g_end_marks T.F_end_marks.kp T.b_end_marks .nil pass0 (pa_cons (pv 0) pa_nil)))
        (pss_cons (ps_set (i := 4) sc_paired.nd rfl (Or.inr rfl) (pe_call G_end_marks (hr.mono (by decide)) (by rfl) T.g_end_marks T.F_end_marks.kp T.b_end_marks .nil pass0 (pa_cons (pv 1) pa_nil)))
        (pss_cons (ps_set (i := 5) sc_paired.nd rfl (Or.inr rfl) (pe_ix (ix_tupK K rfl) (pv 0) pe_int (fun _ _ => rfl)))
        (pss_cons (ps_set (i := 6) sc_paired.nd rfl (Or.inr rfl) (pe_ix (ix_tupK K rfl) (pv 1) pe_int (fun _ _ => rfl)))
        (pss_cons (ps_ndefMS (st := st_follow2) (i := 7) rfl TB rfl hin (by kernel_rfl) huq free_follow2 rfl rfl rfl sc_paired.nd rfl (Or.inl rfl) (Or.inr rfl))
        (pss_cons (ps_ndefMS (st := st_is_end2) (i := 8) rfl TB rfl hin (by kernel_rfl) huq free_is_end2 rfl rfl rfl sc_paired.nd rfl (Or.inl rfl) (Or.inr rfl))
        (pss_one (ps_ret (pe_callTr G_built (hr.mono (by decide)) (by rfl) T.g_built T.F_built.kp T.b_built (fun _ => cap_a2) (fun _ => rfl) (pa_cons (pe_ix (ix_tupK K rfl) (pv 0) pe_int (fun _ _ => rfl)) (pa_cons (pe_tup (pa_cons pe_int (pa_cons pe_int pa_nil))) (pa_cons (pv 7) (pa_cons (pv 8) pa_nil))))))))))))), ?_⟩
    obtain ⟨t1, e1, as1, h11, h12, h13, h14⟩ := id hM1
    obtain ⟨t2, e2, as2, h21, h22, h23, h24⟩ := id hM2
    refine ⟨.ref m1, rfl, m1, M1, rfl, hM1, k1, by omega, fun Ha mk1 sma fmk1 emk1 => ?_⟩
    refine ⟨.ref m2, rfl, m2, M2, rfl, hM2.mono fun b xs eb => sma _ _ eb, k2, by omega, fun H1 mk2 smb fmk2 emk2 => ?_⟩
    have sm1 : Same H H1 := sma.trans smb
    refine ⟨.ref m1, rfl, m1, _, (1 : Int), .ref t1, rfl, rfl, .inl (.inl (sm1 _ _ h11)), rfl, ?_⟩
    refine ⟨.ref m2, rfl, m2, _, (1 : Int), .ref t2, rfl, rfl, .inl (.inl (sm1 _ _ h21)), rfl, ?_⟩
    refine ⟨tb0.ext sm1, fun f1 c1 H2 ex2 ng2 tb2 nf1 ef1 ec1 => ?_⟩
    refine ⟨tb2, fun f2 c2 H3 ex3 ng3 tb3 nf2 ef2 ec2 => ?_⟩
    have s13 : ∀ b o, H1 b = some o → (∀ ps, o ≠ .tbl ps) → H3 b = some o := fun b o eb n => ex3 b o (ex2 b o eb n) n
    have nt : ∀ (xs : List V) ps, HO.tup xs ≠ .tbl ps := by
      intro xs ps z
      cases z
    refine ⟨.ref m1, rfl, m1, _, (0 : Int), .str M1.z, rfl, rfl, .inl (.inl (s13 _ _ (sm1 _ _ h11) (nt _))), rfl, by show 2 ≤ sizeLine; decide, fun p0 np0 => ?_⟩
    refine ⟨.ref f1, rfl, .ref f2, rfl, rfl, fun ok H4 hout hnone CT => ?_⟩
    -- what stood stands
    have s30 : Same H3 (upd H3 p0 (.tup [.int 0, .int 0])) := same_new np0
    have e0 : (upd H3 p0 (.tup [.int 0, .int 0])) p0 = some (.tup [.int 0, .int 0]) := upd_same
    generalize upd H3 p0 (.tup [.int 0, .int 0]) = H3' at s30 e0 hout hnone
    have f31 : H3' f1 = some (FnO f1 (nf_follow2 (cloFrom (xP P w K mg base T.a_paired c A outer s H E).env.cells (C8.fnScope st_follow2).names []) c1)) := s30 _ _ (ex3 f1 _ ef1 fun ps => fnO_ne ps)
    have c31 : H3' c1 = some (CodeO c1 q_follow2) := s30 _ _ (ex3 c1 _ ec1 fun ps => codeO_ne ps)
    have f32 : H3' f2 = some (FnO f2 (nf_is_end2 (cloFrom (xP P w K mg base T.a_paired c A outer s H E).env.cells (C8.fnScope st_is_end2).names []) c2)) := s30 _ _ ef2
    have c32 : H3' c2 = some (CodeO c2 q_is_end2) := s30 _ _ ec2
    have nin : ∀ b o, H3' b = some o → ¬ inC (xP P w K mg base T.a_paired c A outer s H E).env.cells b := fun b o eb z => by
      have := hnone b z
      rw [eb] at this
      cases this
    have up : ∀ b o, H3' b = some o → H4 b = some o := fun b o eb => by
      rw [hout b (nin b o eb)]
      exact eb
    have t4 : Tups H H4 := fun b xs eb => up b _ (s30 _ _ (s13 b _ (sm1 _ _ eb) (nt _)))
    have m41 : H4 mk1 = some (.lst ((marksOf M1).map V.bl)) := up _ _ (s30 _ _ (s13 _ _ (smb _ _ emk1) (by intro ps z; cases z)))
    have m42 : H4 mk2 = some (.lst ((marksOf M2).map V.bl)) := up _ _ (s30 _ _ (s13 _ _ emk2 (by intro ps z; cases z)))
    have cellE : ∀ b, inC (xP P w K mg base T.a_paired c A outer s H E).env.cells b → ∃ o, H4 b = some (CellO b o) := fun b z => by
      obtain ⟨y, hy⟩ := z
      obtain ⟨o, v, z1, _⟩ := CT.all y b hy
      exact ⟨o, z1⟩
    have capF := cap_f2 ok
    have capE := cap_e2 ok
    have CF : ∀ H' : Hp, Same H4 H' → CellsT H' (cloFrom (xP P w K mg base T.a_paired c A outer s H E).env.cells (C8.fnScope st_follow2).names []) ["first_table", "second_table"] [some (.ref t1), some (.ref t2)] := fun H' sm => (CT.same fun b o eb => sm _ _ eb).sub capF rfl fun i y hy => by
      match i, hy with
      | 0, hy => exact ⟨0, hy, rfl⟩
      | 1, hy => exact ⟨1, hy, rfl⟩
      | i + 2, hy => simp at hy
    have CE : ∀ H' : Hp, Same H4 H' → CellsT H' (cloFrom (xP P w K mg base T.a_paired c A outer s H E).env.cells (C8.fnScope st_is_end2).names []) ["first_marks", "second_marks", "wanted"] [some (.ref mk1), some (.ref mk2), some (.ref wt)] := fun H' sm => (CT.same fun b o eb => sm _ _ eb).sub capE rfl fun i y hy => by
      match i, hy with
      | 0, hy => exact ⟨2, hy, rfl⟩
      | 1, hy => exact ⟨3, hy, rfl⟩
      | 2, hy => exact ⟨4, hy, rfl⟩
      | i + 3, hy => simp at hy
    have ca1 := Callable.of ((ok_follow2 (P := P) (w := w) (K := K) (mg := mg) (base := base) (f := f1) (c := c1) (cl := cloFrom (xP P w K mg base T.a_paired c A outer s H E).env.cells (C8.fnScope st_follow2).names []) T).mono (show 1 ≤ 4 by decide))
    have ca2 := Callable.of ((ok_is_end2 (P := P) (w := w) (K := K) (mg := mg) (base := base) (f := f2) (c := c2) (cl := cloFrom (xP P w K mg base T.a_paired c A outer s H E).env.cells (C8.fnScope st_is_end2).names [])).mono (show 1 ≤ 4 by decide))
    have pos1 := k1.many
    have pos2 := k2.many
    have hdv : ∀ s', s' < M1.rows.length * M2.rows.length → s' / M2.rows.length < M1.rows.length := fun s' hs' => Nat.div_lt_of_lt_mul (by rw [Nat.mul_comm]; exact hs')
    have hmd : ∀ s', s' % M2.rows.length < M2.rows.length := fun s' => Nat.mod_lt _ pos2
    have hprod : M1.rows.length * M2.rows.length ≤ 1000000 := hb
    have hpos : 0 < M1.rows.length * M2.rows.length := Nat.mul_pos pos1 pos2
    -- a row and what stands in it
    have rows : ∀ s', s' < M1.rows.length * M2.rows.length → ∃ r1 r2, M1.rows[s' / M2.rows.length]? = some r1 ∧ M2.rows[s' % M2.rows.length]? = some r2 ∧ pRow M1 M2 s' = r1.zipWith (fun a b => a * M2.rows.length + b) r2 ∧ r1.length = M1.z.length ∧ r2.length = M1.z.length ∧ (∀ u ∈ r1, u < M1.rows.length) ∧ ∀ u ∈ r2, u < M2.rows.length := fun s' hs' => by
      obtain ⟨r1, a1, a2, a3, a4⟩ := k1.row_at (hdv s' hs')
      obtain ⟨r2, b1, b2, b3, b4⟩ := k2.row_at (hmd s')
      refine ⟨r1, r2, a1, b1, ?_, a3, by rw [b3, hz], a4, b4⟩
      unfold pRow
      rw [a2, b2]
    have lm1 : ∀ {M : Mach} {s' : Nat}, s' < M.rows.length → (marksOf M)[s']? = some (decide (s' ∈ M.ends)) := fun {M s'} hs' => by
      unfold marksOf
      rw [List.getElem?_map, List.getElem?_range hs']
      rfl
    refine ⟨M1.z, p0, f1, f2, _, _, _, _, M2.rows.length, 0, M1.rows.length * M2.rows.length, M1.z.length, pRow M1 M2, pFin M1 M2 wbs, rfl, ?_, up _ _ f31, ca1, up _ _ f32, ca2, hpos, hprod, k1.let_.one, k1.let_.five, fun s' hs' => ?_, fun s' p H' Q' hs' sm hp hQ => ?_, fun s' p H' Q' hs' sm hp hQ => ?_, fun H5 p M' ks tbl hl sm5 mm ez bo => ⟨fun b z => ?_, ?_⟩⟩
    · show H4 p0 = some (.tup [.int ((0 / M2.rows.length : Nat) : Int), .int ((0 % M2.rows.length : Nat) : Int)])
      rw [Nat.zero_div, Nat.zero_mod]
      exact up _ _ e0
    · obtain ⟨r1, r2, _, _, e3, l1, l2, u1, u2⟩ := rows s' hs'
      rw [e3]
      refine ⟨by rw [List.length_zipWith, l1, l2, Nat.min_self], fun t ht => ?_⟩
      obtain ⟨j, hj⟩ := List.mem_iff_getElem?.mp ht
      rw [List.getElem?_zipWith] at hj
      cases ha : r1[j]? with
      | none =>
        rw [ha] at hj
        simp at hj
      | some a =>
        cases hb : r2[j]? with
        | none =>
          rw [ha, hb] at hj
          simp at hj
        | some b =>
          rw [ha, hb] at hj
          have : a * M2.rows.length + b = t := Option.some.inj hj
          rw [← this]
          exact pr_lt (u1 a (List.mem_of_getElem? ha)) (u2 b (List.mem_of_getElem? hb))
    · -- follow
      obtain ⟨r1, r2, g1, g2, e3, l1, l2, u1, u2⟩ := rows s' hs'
      obtain ⟨a1, ea1, _, ha1⟩ := h13.get g1
      obtain ⟨a2, ea2, _, ha2⟩ := h23.get g2
      have nC : ∀ b xs, H' b = some (.tup xs) → hide (inC (cloFrom (xP P w K mg base T.a_paired c A outer s H E).env.cells (C8.fnScope st_follow2).names [])) H' b = some (.tup xs) := fun b xs eb => by
        rw [hide_out (fun z => by
          obtain ⟨y, hy⟩ := z
          obtain ⟨o, v, z1, _⟩ := (CF H' sm).all y b hy
          rw [eb] at z1
          cases z1)]
        exact eb
      refine ⟨[some (.ref t1), some (.ref t2)], sm _ _ (up _ _ f31), sm _ _ (up _ _ c31), CF H' sm, t1, t2, a1, a2, p, as1, as2, r1, r2, s' / M2.rows.length, s' % M2.rows.length, rfl, rfl, nC _ _ hp, nC _ _ (sm _ _ (t4 _ _ h12)), ea1, nC _ _ (sm _ _ (t4 _ _ ha1)), nC _ _ (sm _ _ (t4 _ _ h22)), ea2, nC _ _ (sm _ _ (t4 _ _ ha2)), by rw [l1, l2], fun H6 b bas sm6 nb eb prv h6n => ?_⟩
      have out6 : ∀ (x : Addr) (o : HO), H6 x = some o → ¬ inC (cloFrom (xP P w K mg base T.a_paired c A outer s H E).env.cells (C8.fnScope st_follow2).names []) x := fun x o ex z => by
        rw [h6n x z] at ex
        cases ex
      refine hQ _ b bas (fun x o ex => ?_) ?_ ?_ ⟨?_, fun j p' t' hj ht' => ?_⟩
      · by_cases z : inC (cloFrom (xP P w K mg base T.a_paired c A outer s H E).env.cells (C8.fnScope st_follow2).names []) x
        · exact (back_in z).trans ex
        · exact (back_out z).trans (sm6 _ _ ((hide_out z).trans ex))
      · exact (hide_out (out6 b _ eb)).symm.trans nb
      · exact (back_out (out6 b _ eb)).trans eb
      · rw [prv.1, List.length_map, e3, List.length_zipWith, l1, l2, Nat.min_self]
      · obtain ⟨x, y, hx, hy, e⟩ := prv.2 j p' hj
        obtain ⟨a, ha, rfl⟩ := int_at hx
        obtain ⟨b', hb', rfl⟩ := int_at hy
        rw [e3, List.getElem?_zipWith, ha, hb'] at ht'
        obtain rfl : a * M2.rows.length + b' = t' := Option.some.inj ht'
        have hbl := u2 b' (List.mem_of_getElem? hb')
        show back _ H' H6 p' = some (.tup [.int (((a * M2.rows.length + b') / M2.rows.length : Nat) : Int), .int (((a * M2.rows.length + b') % M2.rows.length : Nat) : Int)])
        exact (back_out (out6 p' _ e)).trans (by rw [pr_div hbl, pr_mod hbl]; exact e)
    · -- is_end
      have nC : ∀ b o, H' b = some o → (∀ x, o ≠ CellO b x) → hide (inC (cloFrom (xP P w K mg base T.a_paired c A outer s H E).env.cells (C8.fnScope st_is_end2).names [])) H' b = some o := fun b o eb n => by
        rw [hide_out (fun z => by
          obtain ⟨y, hy⟩ := z
          obtain ⟨o', v, z1, _⟩ := (CE H' sm).all y b hy
          rw [eb] at z1
          exact n _ (Option.some.inj z1))]
        exact eb
      have nT : ∀ b xs, H' b = some (.tup xs) → hide (inC (cloFrom (xP P w K mg base T.a_paired c A outer s H E).env.cells (C8.fnScope st_is_end2).names [])) H' b = some (.tup xs) := fun b xs eb => nC b _ eb (by intro x z; cases z)
      refine ⟨[some (.ref mk1), some (.ref mk2), some (.ref wt)], sm _ _ (up _ _ f32), sm _ _ (up _ _ c32), CE H' sm, mk1, mk2, wt, p, qs, marksOf M1, marksOf M2, decide (s' / M2.rows.length ∈ M1.ends), decide (s' % M2.rows.length ∈ M2.ends), wbs, s' / M2.rows.length, s' % M2.rows.length, rfl, rfl, nT _ _ hp, nC _ _ (sm _ _ m41) (by intro x z; cases z), lm1 (hdv s' hs'), nC _ _ (sm _ _ m42) (by intro x z; cases z), lm1 (hmd s'), nT _ _ (sm _ _ (t4 _ _ hwt)), wa.mono fun b xs eb => nT _ _ (sm _ _ (t4 _ _ eb)), sh, fun H6 sm6 h6n => ?_⟩
      refine hQ _ fun x o ex => ?_
      by_cases z : inC (cloFrom (xP P w K mg base T.a_paired c A outer s H E).env.cells (C8.fnScope st_is_end2).names []) x
      · exact (back_in z).trans ex
      · exact (back_out z).trans (sm6 _ _ ((hide_out z).trans ex))
    · obtain ⟨o, z1⟩ := cellE b z
      rw [sm5 _ _ z1, z1]
    · have keep : ∀ b o, H3' b = some o → hide (inC (xP P w K mg base T.a_paired c A outer s H E).env.cells) H5 b = some o := fun b o eb => by
        rw [hide_out (nin b o eb)]
        exact sm5 _ _ (up b o eb)
      refine q _ p M' ks tbl hl (fun b o eb n => keep b o (s30 _ _ (s13 b o (sm1 _ _ eb) n))) ((tb3.ext s30).ext fun b o eb => keep b o eb) (mm.mono fun b xs eb => ?_) ez bo
      rw [hide_out (fun z => by
        obtain ⟨o, z1⟩ := cellE b z
        rw [sm5 _ _ z1] at eb
        cases eb)]
      exact eb
end
end LH

namespace LH
open PySem PySem.Spec PyProof.Rows L2 NdefX LamX
/-! ### what the made machines have -/
theorem run_runs (M : Mach) : ∀ (cs : List Nat) (s : Nat), cs.foldl M.step s = runs M.rows s (cs.map fun c => M.z.cps.toList.idxOf c)
  | [], _ => rfl
  | c :: r, s => run_runs M r (M.step s c)
theorem has_runs (M : Mach) (cs : List Nat) : M.has cs = decide (runs M.rows 0 (cs.map fun c => M.z.cps.toList.idxOf c) ∈ M.ends) := by
  unfold Mach.has Mach.run
  rw [run_runs]
theorem cols_lt {z : Str} {cs : List Nat} (h : ∀ c ∈ cs, c ∈ z.cps.toList) : ∀ c ∈ cs.map fun c => z.cps.toList.idxOf c, c < z.length := fun c hc => by
  obtain ⟨d, hd, rfl⟩ := List.mem_map.mp hc
  exact idx_lt (h d hd)
section
variable {n0 L s0 : Nat} {R : Nat → List Nat} {fin : Nat → Bool} {M : Mach} {ks : List Nat} {tbl : List (List Nat)} {hl : List Nat}
theorem BuiltOk.few (b : BuiltOk n0 L R s0 fin M ks tbl hl) : M.rows.length ≤ n0 := by
  rw [b.rows]
  unfold mRows headsOf
  rw [List.length_map]
  have h1 := List.length_filter_le (isHead hl) (List.range hl.length)
  rw [List.length_range, b.hlen] at h1
  have h2 := b.wi.many
  rw [b.hlen]
  omega
theorem BuiltOk.mach (b : BuiltOk n0 L R s0 fin M ks tbl hl) (k : TabOk ks.length L tbl) (hz : IsLet M.z) (hL : L = M.z.length) : M.Ok := by
  have c := b.canon k
  exact ⟨hz, c.one, fun r hr => by rw [← hL]; exact c.row r hr, c.endl, c.rise⟩
end
theorem remade_ok {M M' : Mach} {wanted : Bool} {ks : List Nat} {tbl : List (List Nat)} {hl : List Nat} (b : BuiltOk M.rows.length M.z.length (fun s => M.rows.getD s []) 0 (fun s => decide (decide (s ∈ M.ends) = wanted)) M' ks tbl hl) (k : M.Ok) (ez : M'.z = M.z) (hb : M.rows.length ≤ 1000000) :
    M'.Ok ∧ M'.rows.length ≤ M.rows.length ∧ ∀ cs, (∀ c ∈ cs, c ∈ M.z.cps.toList) → M'.has cs = decide (M.has cs = wanted) := by
  have tk := BuiltOk.tab b.wi b.len b.full k.let_.one k.let_.five hb
  refine ⟨b.mach tk (by rw [ez]; exact k.let_) (by rw [ez]), b.few, fun cs hcs => ?_⟩
  have := b.words tk (cs.map fun c => M.z.cps.toList.idxOf c) (cols_lt hcs)
  rw [has_runs, has_runs, ez]
  have e : runR (fun s => M.rows.getD s []) 0 (cs.map fun c => M.z.cps.toList.idxOf c) = runs M.rows 0 (cs.map fun c => M.z.cps.toList.idxOf c) := rfl
  rw [e] at this
  exact decide_eq_decide.mpr (this.trans decide_eq_true_iff)
theorem runR_pair {M1 M2 : Mach} (k1 : M1.Ok) (k2 : M2.Ok) (hz : M2.z = M1.z) : ∀ (w : List Nat) (a b : Nat), a < M1.rows.length → b < M2.rows.length → (∀ c ∈ w, c < M1.z.length) →
    runR (pRow M1 M2) (a * M2.rows.length + b) w = runs M1.rows a w * M2.rows.length + runs M2.rows b w ∧ runs M1.rows a w < M1.rows.length ∧ runs M2.rows b w < M2.rows.length
  | [], _, _, ha, hb, _ => ⟨rfl, ha, hb⟩
  | c :: w, a, b, ha, hb, hw => by
    have hc := hw c (List.mem_cons_self ..)
    obtain ⟨r1, a1, a2, a3, a4⟩ := k1.row_at ha
    obtain ⟨r2, b1, b2, b3, b4⟩ := k2.row_at hb
    have c1 : c < r1.length := by omega
    have c2 : c < r2.length := by rw [b3, hz]; exact hc
    have d1 : dl M1.rows a c = r1[c] := by
      unfold dl
      rw [a2, List.getD_eq_getElem?_getD, List.getElem?_eq_getElem c1]
      rfl
    have d2 : dl M2.rows b c = r2[c] := by
      unfold dl
      rw [b2, List.getD_eq_getElem?_getD, List.getElem?_eq_getElem c2]
      rfl
    have st : (pRow M1 M2 (a * M2.rows.length + b)).getD c 0 = dl M1.rows a c * M2.rows.length + dl M2.rows b c := by
      unfold pRow
      rw [pr_div hb, pr_mod hb, a2, b2, List.getD_eq_getElem?_getD, List.getElem?_zipWith, List.getElem?_eq_getElem c1, List.getElem?_eq_getElem c2, d1, d2]
      rfl
    have ih := runR_pair k1 k2 hz w (dl M1.rows a c) (dl M2.rows b c) (by rw [d1]; exact a4 _ (List.getElem_mem c1)) (by rw [d2]; exact b4 _ (List.getElem_mem c2)) fun d hd => hw d (List.mem_cons_of_mem _ hd)
    rw [← st] at ih
    exact ih
theorem paired_ok {M1 M2 M' : Mach} {wbs : List (Bool × Bool)} {ks : List Nat} {tbl : List (List Nat)} {hl : List Nat} (b : BuiltOk (M1.rows.length * M2.rows.length) M1.z.length (pRow M1 M2) 0 (pFin M1 M2 wbs) M' ks tbl hl) (k1 : M1.Ok) (k2 : M2.Ok) (hz : M2.z = M1.z) (ez : M'.z = M1.z)
    (hb : M1.rows.length * M2.rows.length ≤ 1000000) : M'.Ok ∧ M'.rows.length ≤ M1.rows.length * M2.rows.length ∧ ∀ cs, (∀ c ∈ cs, c ∈ M1.z.cps.toList) → M'.has cs = decide ((M1.has cs, M2.has cs) ∈ wbs) := by
  have tk := BuiltOk.tab b.wi b.len b.full k1.let_.one k1.let_.five hb
  refine ⟨b.mach tk (by rw [ez]; exact k1.let_) (by rw [ez]), b.few, fun cs hcs => ?_⟩
  have := b.words tk (cs.map fun c => M1.z.cps.toList.idxOf c) (cols_lt hcs)
  obtain ⟨e, l1, l2⟩ := runR_pair k1 k2 hz (cs.map fun c => M1.z.cps.toList.idxOf c) 0 0 k1.many k2.many (cols_lt hcs)
  rw [Nat.zero_mul, Nat.zero_add] at e
  rw [has_runs, has_runs M1, has_runs M2, ez, hz]
  rw [e] at this
  unfold pFin at this
  rw [pr_div l2, pr_mod l2] at this
  exact decide_eq_decide.mpr (this.trans decide_eq_true_iff)
section
variable {P : Program} {w : World} {K : PySem.W.Frag} {mg : Str → Option Value} {base : Heap}
def sp_twoC (tabs : List NTab) (op : Bool → Bool → Bool) : Sp := fun vs H Q _ => ∃ (m1 m2 : Addr) (M1 M2 : Mach), vs = [.ref m1, .ref m2] ∧ MachAt H m1 M1 ∧ M1.Ok ∧ MachAt H m2 M2 ∧ M2.Ok ∧ M2.z = M1.z ∧ M1.rows.length * M2.rows.length ≤ 1000000 ∧ TabsN tabs H ∧
  ∀ H' p (M' : Mach), ExtN H H' → TabsN tabs H' → MachAt H' p M' → M'.z = M1.z → M'.Ok → M'.rows.length ≤ M1.rows.length * M2.rows.length → Canon M1.z.length M'.rows M'.ends → (∀ cs, (∀ c ∈ cs, c ∈ M1.z.cps.toList) → M'.has cs = op (M1.has cs) (M2.has cs)) → Q (.ref p) H'
theorem ok_bothC (T : TX K mg) {tabs : List NTab} (G_paired : FnOk P w K mg base CX0 7 T.a_paired T.fd_paired ["one", "other", "wanted"] (sp_paired tabs)) : FnOk P w K mg base CX0 8 T.a_both T.fd_both ["one", "other"] (sp_twoC tabs and) := by
  refine T.F_both.ok sc_both (fun vs H Q E h => ?_) (fun cdv A outer s H vs Q E hr h => ?_)
  · obtain ⟨m1, m2, M1, M2, rfl, _⟩ := h
    rfl
  · obtain ⟨m1, m2, M1, M2, rfl, hM1, k1, hM2, k2, hz, hb, tb, q⟩ := h
    refine ⟨_, (pss_one (ps_ret (pe_call G_paired (hr.mono (by decide)) (by rfl) T.g_paired T.F_paired.kp T.b_paired .nil pass0 (pa_cons (pv 0) (pa_cons (pv 1) (pa_cons (pe_tup (pa_cons (pe_tup (pa_cons pe_bl (pa_cons pe_bl pa_nil))) pa_nil)) pa_nil)))))), ?_⟩
    refine ⟨.ref m1, rfl, .ref m2, rfl, by show 2 ≤ sizeLine; decide, fun q1 n1 => ⟨by show 1 ≤ sizeLine; decide, fun wt nw => ?_⟩⟩
    have s1 := (same_new n1).trans (same_new (o := .tup [.ref q1]) nw)
    refine ⟨m1, m2, wt, M1, M2, [q1], [(true, true)], rfl, hM1.mono fun b xs e => s1 _ _ e, k1, hM2.mono fun b xs e => s1 _ _ e, k2, hz, upd_same, ⟨same_new nw _ _ upd_same, trivial⟩, by decide, hb, tb.ext s1, fun H' p M' ks tbl hl ex tb' mm ez bo => ?_⟩
    obtain ⟨r1, r2, r3⟩ := paired_ok bo k1 k2 hz ez hb
    have tk := BuiltOk.tab bo.wi bo.len bo.full k1.let_.one k1.let_.five hb
    exact q H' p M' (fun b o e n => ex b o (s1 _ _ e) n) tb' mm ez r1 r2 (bo.canon tk) fun cs hcs => by rw [r3 cs hcs]; cases M1.has cs <;> cases M2.has cs <;> rfl
theorem ok_eitherC (T : TX K mg) {tabs : List NTab} (G_paired : FnOk P w K mg base CX0 7 T.a_paired T.fd_paired ["one", "other", "wanted"] (sp_paired tabs)) : FnOk P w K mg base CX0 8 T.a_either T.fd_either ["one", "other"] (sp_twoC tabs or) := by
  refine T.F_either.ok sc_either (fun vs H Q E h => ?_) (fun cdv A outer s H vs Q E hr h => ?_)
  · obtain ⟨m1, m2, M1, M2, rfl, _⟩ := h
    rfl
  · obtain ⟨m1, m2, M1, M2, rfl, hM1, k1, hM2, k2, hz, hb, tb, q⟩ := h
    refine ⟨_, (pss_one (ps_ret (pe_call G_paired (hr.mono (by decide)) (by rfl) T.g_paired T.F_paired.kp T.b_paired .nil pass0 (pa_cons (pv 0) (pa_cons (pv 1) (pa_cons (pe_tup (pa_cons (pe_tup (pa_cons pe_bl (pa_cons pe_bl pa_nil))) (pa_cons (pe_tup (pa_cons pe_bl (pa_cons pe_bl pa_nil))) (pa_cons (pe_tup (pa_cons pe_bl (pa_cons pe_bl pa_nil))) pa_nil)))) pa_nil)))))), ?_⟩
    refine ⟨.ref m1, rfl, .ref m2, rfl, by show 2 ≤ sizeLine; decide, fun q1 n1 => ⟨by show 2 ≤ sizeLine; decide, fun q2 n2 => ⟨by show 2 ≤ sizeLine; decide, fun q3 n3 => ⟨by show 3 ≤ sizeLine; decide, fun wt nw => ?_⟩⟩⟩⟩
    have s1 := (((same_new n1).trans (same_new n2)).trans (same_new n3)).trans (same_new (o := .tup [.ref q1, .ref q2, .ref q3]) nw)
    refine ⟨m1, m2, wt, M1, M2, [q1, q2, q3], [(true, true), (true, false), (false, true)], rfl, hM1.mono fun b xs e => s1 _ _ e, k1, hM2.mono fun b xs e => s1 _ _ e, k2, hz, upd_same, ⟨same_new nw _ _ (same_new n3 _ _ (same_new n2 _ _ upd_same)), same_new nw _ _ (same_new n3 _ _ upd_same), same_new nw _ _ upd_same, trivial⟩, by decide, hb, tb.ext s1, fun H' p M' ks tbl hl ex tb' mm ez bo => ?_⟩
    obtain ⟨r1, r2, r3⟩ := paired_ok bo k1 k2 hz ez hb
    have tk := BuiltOk.tab bo.wi bo.len bo.full k1.let_.one k1.let_.five hb
    exact q H' p M' (fun b o e n => ex b o (s1 _ _ e) n) tb' mm ez r1 r2 (bo.canon tk) fun cs hcs => by rw [r3 cs hcs]; cases M1.has cs <;> cases M2.has cs <;> rfl
end
end LH

namespace LH
open PySem PySem.Spec PyProof.Rows L2 NdefX LamX
theorem idx_of_rise {cs : List Nat} (h : cs.Pairwise (· < ·)) {c : Nat} (hc : c < cs.length) : cs.idxOf (cs.getD c 0) = c := by
  have e : cs.getD c 0 = cs[c] := by
    rw [List.getD_eq_getElem?_getD, List.getElem?_eq_getElem hc]
    rfl
  have hm : cs.getD c 0 ∈ cs := by
    rw [e]
    exact List.getElem_mem hc
  have hi := List.idxOf_lt_length_iff.mpr hm
  have g : cs[cs.idxOf (cs.getD c 0)] = cs.getD c 0 := List.getElem_idxOf hi
  rcases Nat.lt_trichotomy (cs.idxOf (cs.getD c 0)) c with l | l | l
  · have := List.pairwise_iff_getElem.mp h _ _ hi hc l
    omega
  · exact l
  · have := List.pairwise_iff_getElem.mp h _ _ hc hi l
    omega
theorem canon_mach {z : Str} {M N : Mach} (k : M.Ok) (hz : M.z = z) (nz : N.z = z) (c : Canon z.length M.rows M.ends) (d : Canon z.length N.rows N.ends) (e : ∀ cs, (∀ c ∈ cs, c ∈ z.cps.toList) → M.has cs = N.has cs) : M = N := by
  have hlet : IsLet z := hz ▸ k.let_
  have q := canon_uniq c d fun w hw => by
    have hcs : ∀ x ∈ w.map (fun c => z.cps.toList.getD c 0), x ∈ z.cps.toList := fun x hx => by
      obtain ⟨c, hc, rfl⟩ := List.mem_map.mp hx
      have hl : c < z.cps.toList.length := by
        rw [Array.length_toList]
        exact hw c hc
      rw [List.getD_eq_getElem?_getD, List.getElem?_eq_getElem hl]
      exact List.getElem_mem hl
    have ew : (w.map fun c => z.cps.toList.getD c 0).map (fun c => z.cps.toList.idxOf c) = w := by
      rw [List.map_map]
      conv => rhs; rw [← List.map_id w]
      refine List.map_congr_left fun c hc => ?_
      exact idx_of_rise hlet.rise (by rw [Array.length_toList]; exact hw c hc)
    have := e _ hcs
    rw [has_runs, has_runs, hz, nz, ew] at this
    exact decide_eq_decide.mp this
  obtain ⟨a, b⟩ := q
  cases M
  cases N
  simp only at a b hz nz
  subst a b hz nz
  rfl
end LH

namespace LH
open PySem PySem.Spec PyProof.Rows L2 NdefX LamX
theorem take_snocQ {α : Type} {xs : List α} {i : Nat} {x : α} (h : xs[i]? = some x) : xs.take (i + 1) = xs.take i ++ [x] := by
  rw [List.take_add_one, h]
  rfl
/-! ### lists of texts -/
abbrev vS (ws : List Str) : List V := ws.map V.str
theorem vS_snoc (ws : List Str) (x : Str) : vS ws ++ [V.str x] = vS (ws ++ [x]) := by
  show List.map _ _ ++ _ = List.map _ _
  rw [List.map_append]
  rfl
theorem vS_app (ws us : List Str) : vS ws ++ vS us = vS (ws ++ us) := (List.map_append ..).symm
def WOk (z : Str) (n : Nat) (ws : List Str) : Prop := ∀ x ∈ ws, x.length ≤ n ∧ ∀ c ∈ x.cps.toList, c ∈ z.cps.toList
/-- all words of so many letters are there -/
def WAll (z : Str) (n : Nat) (ws : List Str) : Prop := ∀ x : Str, x.length = n → (∀ c ∈ x.cps.toList, c ∈ z.cps.toList) → x ∈ ws
theorem str_at {ws : List Str} {i : Nat} {x : V} (h : (vS ws)[i]? = some x) : ∃ s, ws[i]? = some s ∧ x = .str s := by
  rw [List.getElem?_map] at h
  obtain ⟨a, e, z⟩ := Option.map_eq_some_iff.mp h
  exact ⟨a, e, z.symm⟩
theorem str_last {x : Str} {n : Nat} (h : x.length = n + 1) : ∃ (y : Str) (c : Nat), x = y ++ sg c ∧ y.length = n ∧ (∀ d ∈ y.cps.toList, d ∈ x.cps.toList) ∧ c ∈ x.cps.toList := by
  have hl : x.cps.toList.length = n + 1 := by
    rw [Array.length_toList]
    exact h
  have hne : x.cps.toList ≠ [] := fun z => by
    rw [z] at hl
    cases hl
  refine ⟨⟨x.cps.toList.dropLast.toArray⟩, x.cps.toList.getLast hne, ?_, ?_, fun d hd => ?_, List.getLast_mem hne⟩
  · have e := List.dropLast_concat_getLast hne
    cases x with
    | mk cps =>
      show (⟨cps⟩ : Str) = ⟨cps.toList.dropLast.toArray ++ #[cps.toList.getLast hne]⟩
      congr 1
      refine Array.toList_inj.mp ?_
      rw [Array.toList_append]
      exact e.symm
  · show (x.cps.toList.dropLast.toArray).size = n
    rw [List.size_toArray, List.length_dropLast, hl]
    rfl
  · exact List.dropLast_subset _ hd
end LH

namespace LH
open PySem PySem.Spec PyProof.Rows L2 NdefX LamX
section
variable {P : Program} {w : World} {K : PySem.W.Frag} {mg : Str → Option Value} {base : Heap}
/-! ### _law_short -/
def sp_law_short : Sp := fun vs H Q _ => ∃ (z : Str) (n : Nat), vs = [.str z, .int (n : Int)] ∧ IsLet z ∧ n ≤ 100 ∧ z.length ^ n ≤ 1000 ∧
  ∀ H' p ws, Same H H' → H p = none → H' p = some (.lst (vS ws)) → ws.length ≤ 1000 * (n + 1) → WOk z n ws → (∀ m, m ≤ n → WAll z m ws) → Q (.ref p) H'
theorem ok_law_short (T : TX K mg) : FnOk P w K mg base CX0 1 T.a_law_short T.fd_law_short ["letters", "size"] sp_law_short := by
  refine T.F_law_short.ok sc_law_short (fun vs H Q E h => ?_) (fun cdv A outer s H vs Q E hr h => ?_)
  · obtain ⟨z, n, rfl, _⟩ := h
    rfl
  · obtain ⟨z, n, rfl, hz, hn, hp, q⟩ := h
    refine ⟨_, (pss_cons (ps_set (i := 2) sc_law_short.nd rfl (Or.inl rfl) (pe_lst (pa_cons pe_str pa_nil)))
      (pss_cons (ps_set (i := 3) sc_law_short.nd rfl (Or.inl rfl) (pe_lst (pa_cons pe_str pa_nil)))
      (pss_cons (ps_for PassesOwn.never rfl (pi_range1 (by rfl) T.m_range (pa_cons (pv 1) pa_nil)) (pg_name (i := 4) sc_law_short.nd rfl (Or.inl rfl))
        (pss_cons (ps_set (i := 5) sc_law_short.nd rfl (Or.inl rfl) (pe_lst pa_nil))
          (pss_cons (ps_for PassesOwn.never rfl (pi_listK K rfl (pv 3)) (pg_name (i := 6) sc_law_short.nd rfl (Or.inr rfl))
            (pss_one (ps_set (i := 5) sc_law_short.nd rfl (Or.inl rfl) (pe_op op_cat (pv 5) (pe_lc (own := [("letter", 7)]) (g := gName 7) (tt := tYes) (by rfl) sc_law_short.nd (pi_str (pv 0)) (blkOk_by (own := [("letter", 7)]) (N := N_law_short) (by kernel_rfl)) (fun _ _ _ _ _ => (pg_name (i := 7) sc_law_short.nd rfl (by first | exact Or.inl rfl | exact Or.inr rfl))) (fun _ _ _ _ _ => pts_nil) (fun _ _ _ _ _ => (pe_op op_add_str (pv 6) (pv 7))))))))
          (pss_cons (ps_set (i := 3) sc_law_short.nd rfl (Or.inl rfl) (pv 5))
          (pss_one (ps_set (i := 2) sc_law_short.nd rfl (Or.inl rfl) (pe_op op_cat (pv 2) (pv 3))))))))
      (pss_one (ps_ret (pv 2)))))), ?_⟩
    have h1 := hz.one
    have h5 := hz.five
    have hpow : ∀ i, i ≤ n → z.length ^ i ≤ 1000 := fun i hi => Nat.le_trans (Nat.pow_le_pow_right h1 hi) hp
    have sl : ∀ m, m ≤ 1000000 → m ≤ sizeLine := fun m hm => Nat.le_trans hm (by decide)
    refine ⟨by show 1 ≤ sizeLine; decide, fun p0 np0 => ⟨by show 1 ≤ sizeLine; decide, fun p1 np1 => ?_⟩⟩
    refine ⟨.int (n : Int), rfl, (n : Int), rfl, by omega, by omega, ?_⟩
    have s0 := (same_new (o := .lst [.str ⟨#[]⟩]) np0).trans (same_new (o := .lst [.str ⟨#[]⟩]) np1)
    refine for_range (lo := 0) (n := (n : Int).toNat) (fun i σ H' => ∃ (fp rp : Addr) (fs rs : List Str) (y4 y5 y6 : Option V), σ = [some (.str z), some (.int (n : Int)), some (.ref fp), some (.ref rp), y4, y5, y6, none] ∧ Same H H' ∧ H fp = none ∧ H' fp = some (.lst (vS fs)) ∧ H' rp = some (.lst (vS rs)) ∧ rs.length = z.length ^ i ∧ WOk z i rs ∧ WAll z i rs ∧ fs.length ≤ 1000 * (i + 1) ∧ WOk z i fs ∧ ∀ m, m ≤ i → WAll z m fs) ⟨p0, p1, [⟨#[]⟩], [⟨#[]⟩], none, none, none, rfl, s0, np0, same_new np1 _ _ upd_same, upd_same, rfl, ?_, ?_, by decide, ?_, ?_⟩ (fun i σ H1 hi hW => ?_) (fun σ H1 hW => ?_)
    · intro x hx
      rw [List.mem_singleton.mp hx]
      exact ⟨Nat.le_refl _, fun c hc => nomatch hc⟩
    · intro x hx _
      cases x with
      | mk cps =>
        rw [show cps = #[] from Array.size_eq_zero_iff.mp hx]
        exact List.mem_singleton.mpr rfl
    · intro x hx
      rw [List.mem_singleton.mp hx]
      exact ⟨Nat.le_refl _, fun c hc => nomatch hc⟩
    · intro m hm x hx _
      obtain rfl : m = 0 := by omega
      cases x with
      | mk cps =>
        rw [show cps = #[] from Array.size_eq_zero_iff.mp hx]
        exact List.mem_singleton.mpr rfl
    · obtain ⟨fp, rp, fs, rs, y4, y5, y6, rfl, sm1, nf, ef, er, lr, okr, alr, lf, okf, alf⟩ := hW
      have hin : i < n := by omega
      refine ⟨by show 0 ≤ sizeLine; decide, fun lo nlo => ?_⟩
      have er2 := same_new (o := .lst []) nlo _ _ er
      have ef2 := same_new (o := .lst []) nlo _ _ ef
      refine ⟨.ref rp, rfl, rp, rfl, ⟨_, .inl (.inl er2)⟩, ?_⟩
      refine for_it (walk_list (K := K) (a := rp) (xs := vS rs)) (fun j σ H' => ∃ (lp : Addr) (ls : List Str) (y6 : Option V), σ = [some (.str z), some (.int (n : Int)), some (.ref fp), some (.ref rp), some (.int (0 + (i : Int))), some (.ref lp), y6, none] ∧ Same (upd H1 lo (.lst [])) H' ∧ H' lp = some (.lst (vS ls)) ∧ ls.length = j * z.length ∧ WOk z (i + 1) ls ∧ ∀ y ∈ rs.take j, ∀ c ∈ z.cps.toList, y ++ sg c ∈ ls) ⟨lo, [], y6, rfl, Same.refl _, upd_same, by rw [Nat.zero_mul]; rfl, (fun _ h => nomatch h), fun _ h => nomatch h⟩ (fun j σ H' _ hW => ?_) (fun j x σ H2 H2' hj hW hY => ?_) (fun σ H2 hW => ?_)
      · obtain ⟨_, _, _, _, sz, _⟩ := hW
        exact .inl (.inl (sz _ _ er2))
      · obtain ⟨lp, ls, y6, rfl, sm2, elp, ll, okl, cl⟩ := hW
        obtain ⟨rfl, hx⟩ := hY
        obtain ⟨x, hx', rfl⟩ := str_at hx
        obtain ⟨xl, xc⟩ := okr x (List.mem_of_getElem? hx')
        rw [List.length_map, lr] at hj
        have hbig : z.length ^ i * z.length ≤ 1000 := by
          have := hpow (i + 1) hin
          rw [Nat.pow_succ] at this
          exact this
        have hjz : j * z.length + z.length ≤ 1000 := by
          have h2 := Nat.mul_le_mul_right z.length (show j + 1 ≤ z.length ^ i from hj)
          rw [Nat.add_mul, Nat.one_mul] at h2
          omega
        refine ⟨.ref lp, rfl, .str z, rfl, z, rfl, fun D nD => ?_⟩
        have dlp : lp ≠ D := ne_of_none elp nD
        refine lc_it walk_str (fun k H' => H' = upd H2' D (.lst (vS ((z.cps.toList.take k).map fun c => x ++ sg c)))) rfl (fun _ _ _ _ => trivial) (fun k y H3 H3' hk hW hY => ?_) (fun H3 hW => ?_)
        · subst hW
          obtain ⟨rfl, c, hc, rfl⟩ := hY
          have hc' : z.cps.toList[k]? = some c := by
            rw [Array.getElem?_toList]
            exact hc
          have hkz : k < z.length := hk
          refine ⟨rfl, lcyes ?_⟩
          refine ⟨.str x, rfl, .str (sg c), rfl, x, sg c, rfl, rfl, ?_, _, upd_same, ?_, ?_⟩
          · exact sl _ (show x.length + 1 ≤ 1000000 by omega)
          · rw [List.length_map, List.length_map, List.length_take]
            exact Nat.lt_of_lt_of_le (show _ < 1000 by omega) (by decide)
          · rw [upd_upd, vS_snoc, take_snocQ hc', List.map_append]
            rfl
        · subst hW
          have et : z.cps.toList.take z.cps.size = z.cps.toList := List.take_of_length_le (by rw [Array.length_toList]; exact Nat.le_refl _)
          rw [et]
          refine ⟨lp, D, vS ls, _, rfl, rfl, by rw [upd_ne dlp]; exact elp, upd_same, ?_, fun l2 nl2 => ?_⟩
          · rw [List.length_map, List.length_map, List.length_map, Array.length_toList]
            exact sl _ (show ls.length + z.length ≤ 1000000 by omega)
          · refine ⟨l2, ls ++ z.cps.toList.map (fun c => x ++ sg c), _, rfl, (sm2.trans (same_new nD)).trans (same_new nl2), ?_, ?_, fun y hy => ?_, fun y hy c hc => ?_⟩
            · rw [upd_same, vS_app]
            · rw [List.length_append, ll, List.length_map, Array.length_toList, Nat.add_mul, Nat.one_mul]
              rfl
            · rcases List.mem_append.mp hy with hy | hy
              · exact okl y hy
              · obtain ⟨c, hc, rfl⟩ := List.mem_map.mp hy
                refine ⟨?_, fun d hd => ?_⟩
                · show (x.cps ++ #[c]).size ≤ i + 1
                  rw [Array.size_append]
                  have : x.cps.size ≤ i := xl
                  show x.cps.size + 1 ≤ i + 1
                  omega
                · have hd' : d ∈ (x.cps ++ #[c]).toList := hd
                  rw [Array.toList_append] at hd'
                  rcases List.mem_append.mp hd' with z1 | z1
                  · exact xc d z1
                  · rw [List.mem_singleton.mp z1]
                    exact hc
            · rw [take_snocQ hx'] at hy
              rcases List.mem_append.mp hy with hy | hy
              · exact List.mem_append_left _ (cl y hy c hc)
              · rw [List.mem_singleton.mp hy]
                exact List.mem_append_right _ (List.mem_map.mpr ⟨c, hc, rfl⟩)
      · obtain ⟨lp, ls, y6, rfl, sm2, elp, ll, okl, cl⟩ := hW
        rw [List.length_map, lr] at ll
        rw [List.length_map, List.take_of_length_le (Nat.le_refl _)] at cl
        have ef3 := sm2 _ _ ef2
        have hll : ls.length ≤ 1000 := by
          rw [ll, ← Nat.pow_succ]
          exact hpow (i + 1) hin
        refine ⟨.ref lp, rfl, .ref fp, rfl, .ref lp, rfl, fp, lp, vS fs, vS ls, rfl, rfl, ef3, elp, ?_, fun l2 nl2 => ?_⟩
        · rw [List.length_map, List.length_map]
          exact sl _ (by omega)
        · have all : WAll z (i + 1) ls := fun x hx hc => by
            obtain ⟨y, c, rfl, hy, h2, h3⟩ := str_last hx
            exact cl y (alr y hy fun d hd => hc d (h2 d hd)) c (hc c h3)
          have s3 := (sm1.trans (same_new nlo)).trans sm2
          refine ⟨l2, lp, fs ++ ls, ls, _, _, _, rfl, s3.trans (same_new nl2), s3.free nl2, ?_, same_new nl2 _ _ elp, by rw [ll, Nat.pow_succ], okl, all, ?_, fun y hy => ?_, fun m hm x hx hc => ?_⟩
          · rw [upd_same, vS_app]
          · rw [List.length_append]
            omega
          · rcases List.mem_append.mp hy with hy | hy
            · exact ⟨Nat.le_succ_of_le (okf y hy).1, (okf y hy).2⟩
            · exact okl y hy
          · by_cases h : m ≤ i
            · exact List.mem_append_left _ (alf m h x hx hc)
            · obtain rfl : m = i + 1 := by omega
              exact List.mem_append_right _ (all x hx hc)
    · obtain ⟨fp, rp, fs, rs, y4, y5, y6, rfl, sm1, nf, ef, er, lr, okr, alr, lf, okf, alf⟩ := hW
      rw [Int.toNat_natCast] at lf okf alf
      exact ⟨.ref fp, rfl, q H1 fp fs sm1 nf ef lf okf alf⟩
end
end LH

namespace LH
open PySem PySem.Spec PyProof.Rows L2 NdefX LamX
/-- these texts are a dict's keys -/
def Knows (kvs : List (Key × V)) (W : List Str) : Prop := ∀ y : Str, (valV kvs (Sum.inr y)).isSome = decide (y ∈ W)
section
variable {P : Program} {w : World} {K : PySem.W.Frag} {mg : Str → Option Value} {base : Heap}
/-! ### seen_behind -/
def sp_seen_behind : Sp := fun vs H Q _ => ∃ (hv : V) (l : Str) (kn : Addr) (kvs : List (Key × V)) (n : Nat) (W : List Str), vs = [hv, .str l, .ref kn, .int (n : Int)] ∧ H kn = some (.dK kvs) ∧ Knows kvs W ∧ l.length ≤ 1000 ∧
  ((hv = .non ∧ Q .non H) ∨ ∃ (p : Addr) (ys : List Str), hv = .ref p ∧ H p = some (.tup (vS ys)) ∧ ys.length ≤ 2000 ∧ (∀ y ∈ ys, y.length ≤ 1000) ∧
    ((∃ y ∈ ys, y ++ l ∉ W) → ∀ H', Same H H' → Q .non H') ∧
    ((∀ y ∈ ys, y ++ l ∈ W) → ∀ H' t zs, Same H H' → H' t = some (.tup (vS zs)) → zs.Perm (tAll (ys ++ (ys.map (· ++ l)).filter fun v => decide (v.length < n))) → sortedS zs = true → Q (.ref t) H'))
theorem ok_seen_behind (T : TX K mg) : FnOk P w K mg base CX0 1 T.a_seen_behind T.fd_seen_behind ["held", "letter", "known", "size"] sp_seen_behind := by
  refine T.F_seen_behind.ok sc_seen_behind (fun vs H Q E h => ?_) (fun cdv A outer s H vs Q E hr h => ?_)
  · obtain ⟨hv, l, kn, kvs, n, W, rfl, _⟩ := h
    rfl
  · obtain ⟨hv, l, kn, kvs, n, W, rfl, hk, hkn, hl, h⟩ := h
    refine ⟨_, (pss_cons (ps_if (pt_cmpR op_isN (pv 0) pe_non (nomark _))
        (pss_one (ps_ret pe_non))
        pss_nil)
      (pss_cons (ps_setLc (i := 4) (own := [("view", 6)]) (g := gName 6) (tt := tYes) (by rfl) sc_seen_behind.nd rfl rfl (sw_true rfl rfl rfl (by decide +kernel)) (pi_tupK K rfl (pv 0)) (blkOk_by (own := [("view", 6)]) (N := N_seen_behind) (by kernel_rfl)) (fun _ _ _ _ _ => (pg_name (i := 6) sc_seen_behind.nd rfl (by first | exact Or.inl rfl | exact Or.inr rfl))) (fun _ _ _ _ _ => pts_nil) (fun _ _ _ _ _ => (pe_op op_add_str (pv 6) (pv 1))))
      (pss_cons (ps_if (pt_not (pt_val (pe_callB (cr_allK K rfl rfl) (by rfl) T.m_all (by decide +kernel) (pa_cons (pe_lc (own := [("view", 6)]) (g := gName 6) (tt := tYes) (by rfl) sc_seen_behind.nd (pi_listK K rfl (pv 4)) (blkOk_by (own := [("view", 6)]) (N := N_seen_behind) (by kernel_rfl)) (fun _ _ _ _ _ => (pg_name (i := 6) sc_seen_behind.nd rfl (by first | exact Or.inl rfl | exact Or.inr rfl))) (fun _ _ _ _ _ => pts_nil) (fun _ _ _ _ _ => (pe_cmp (pc_din (hu_of hr) (pv 6) (pv 2))))) pa_nil))))
        (pss_one (ps_ret pe_non))
        pss_nil)
      (pss_cons (ps_setLc (i := 5) (own := [("view", 6)]) (g := gName 6) (by rfl) sc_seen_behind.nd rfl rfl (sw_true rfl rfl rfl (by decide +kernel)) (pi_listK K rfl (pv 4)) (blkOk_by (own := [("view", 6)]) (N := N_seen_behind) (by kernel_rfl)) (fun _ _ _ _ _ => (pg_name (i := 6) sc_seen_behind.nd rfl (by first | exact Or.inl rfl | exact Or.inr rfl))) (fun _ _ _ _ _ => (pts_one (pt_cmpR op_lt (pe_callB call_len_str (by rfl) T.m_len (by decide +kernel) (pa_cons (pv 6) pa_nil)) (pv 3) (nomark _)))) (fun _ _ _ _ _ => (pv 6)))
      (pss_one (ps_ret (pe_callTy (call_tupleK K rfl) (by rfl) T.m_tuple (by decide +kernel) (pa_cons (pe_callB (cr_sortTK P w rfl rfl rfl) (by rfl) T.m_sorted (by decide +kernel) (pa_cons (pe_callTy (cr_setLK P w K rfl rfl rfl rfl) (by rfl) T.m_set (by decide +kernel) (pa_cons (pe_op op_cat (pe_callTy (call_listK K rfl) (by rfl) T.m_list (by decide +kernel) (pa_cons (pv 0) pa_nil)) (pv 5)) pa_nil)) pa_nil)) pa_nil)))))))), ?_⟩
    rcases h with ⟨rfl, q⟩ | ⟨p, ys, rfl, hp, hy, hyl, qn, qs⟩
    · exact ⟨.non, rfl, rfl, true, rfl, iteT q⟩
    · refine ⟨.ref p, rfl, rfl, false, rfl, iteF ?_⟩
      have sl : ∀ m, m ≤ 1000000 → m ≤ sizeLine := fun m hm => Nat.le_trans hm (by decide)
      have sl' : ∀ m, m ≤ 1000000 → m < sizeLine := fun m hm => Nat.lt_of_le_of_lt hm (by decide)
      -- longer
      refine ⟨.ref p, rfl, p, rfl, ⟨_, .inl (.inl hp)⟩, fun D nD => ?_⟩
      refine lc_it (walk_tup (K := K) (a := p) (xs := vS ys)) (fun i H' => H' = upd H D (.lst (vS ((ys.take i).map (· ++ l))))) rfl (fun i H' _ hW => by rw [hW]; exact .inl (.inl (same_new nD _ _ hp))) (fun i x H1 H1' hi hW hY => ?_) (fun H1 hW => ?_)
      · subst hW
        obtain ⟨rfl, hx⟩ := hY
        obtain ⟨y, hy', rfl⟩ := str_at hx
        have hyl' := hyl y (List.mem_of_getElem? hy')
        rw [List.length_map] at hi
        refine ⟨rfl, lcyes ?_⟩
        refine ⟨.str y, rfl, .str l, rfl, y, l, rfl, rfl, sl _ (by omega), _, upd_same, ?_, ?_⟩
        · rw [List.length_map, List.length_map, List.length_take]
          exact sl' _ (by omega)
        · rw [upd_upd, vS_snoc, take_snocQ hy', List.map_append]
          rfl
      rw [hW, List.length_map, List.take_of_length_le (Nat.le_refl _)]
      have s1 : Same H (upd H D (.lst (vS (ys.map (· ++ l))))) := same_new nD
      have e1 : (upd H D (.lst (vS (ys.map (· ++ l))))) D = some (.lst (vS (ys.map (· ++ l)))) := upd_same
      generalize upd H D (.lst (vS (ys.map (· ++ l)))) = H2 at s1 e1
      have hll : (ys.map (· ++ l)).length = ys.length := List.length_map _
      have hlm : ∀ y ∈ ys.map (· ++ l), y.length ≤ 2000 := fun y hy => by
        obtain ⟨v, hv, rfl⟩ := List.mem_map.mp hy
        have := hyl v hv
        show (v.cps ++ l.cps).size ≤ 2000
        rw [Array.size_append]
        have h1 : v.cps.size ≤ 1000 := this
        have h2 : l.cps.size ≤ 1000 := hl
        omega
      have qn' : (∃ y ∈ ys.map (· ++ l), y ∉ W) → ∀ H', Same H H' → Q .non H' := fun ⟨y, hy, hn⟩ => by
        obtain ⟨v, hv, rfl⟩ := List.mem_map.mp hy
        exact qn ⟨v, hv, hn⟩
      have qs' : (∀ y ∈ ys.map (· ++ l), y ∈ W) → ∀ H' t zs, Same H H' → H' t = some (.tup (vS zs)) → zs.Perm (tAll (ys ++ (ys.map (· ++ l)).filter fun v => decide (v.length < n))) → sortedS zs = true → Q (.ref t) H' := fun h => qs fun y hy => h _ (List.mem_map.mpr ⟨y, hy, rfl⟩)
      clear qn qs
      generalize ys.map (· ++ l) = ls at e1 hll hlm qn' qs'
      -- all
      refine ⟨.ref D, rfl, D, rfl, ⟨_, .inl (.inl e1)⟩, fun D2 nD2 => ?_⟩
      refine lc_it (walk_list (K := K) (a := D) (xs := vS ls)) (fun i H' => H' = upd H2 D2 (.lst (((ls.take i).map fun y => decide (y ∈ W)).map V.bl))) rfl (fun i H' _ hW => by rw [hW]; exact .inl (.inl (same_new nD2 _ _ e1))) (fun i x H3 H3' hi hW hY => ?_) (fun H3 hW => ?_)
      · subst hW
        obtain ⟨rfl, hx⟩ := hY
        obtain ⟨y, hy', rfl⟩ := str_at hx
        rw [List.length_map] at hi
        refine ⟨rfl, lcyes ?_⟩
        refine ⟨.str y, rfl, .ref kn, rfl, kn, _, rfl, DGet.k (k := Sum.inr y) (same_new nD2 _ _ (s1 _ _ hk)), _, upd_same, ?_, ?_⟩
        · rw [List.length_map, List.length_map, List.length_take]
          exact sl' _ (by omega)
        · rw [upd_upd, take_snocQ hy', List.map_append, List.map_append, hkn y]
          rfl
      rw [hW, List.length_map, List.take_of_length_le (Nat.le_refl _)]
      have s2 : Same H2 (upd H2 D2 (.lst ((ls.map fun y => decide (y ∈ W)).map V.bl))) := same_new nD2
      have e2 : (upd H2 D2 (.lst ((ls.map fun y => decide (y ∈ W)).map V.bl))) D2 = some (.lst ((ls.map fun y => decide (y ∈ W)).map V.bl)) := upd_same
      generalize upd H2 D2 (.lst ((ls.map fun y => decide (y ∈ W)).map V.bl)) = H4 at s2 e2
      refine ⟨D2, _, rfl, .inl (.inl e2), _, rfl, ite2 (fun z => ?_) (fun z => ?_)⟩
      · refine qn' ?_ _ (s1.trans s2)
        by_cases h : ∃ y ∈ ls, y ∉ W
        · exact h
        · refine absurd z ?_
          rw [show (ls.map fun y => decide (y ∈ W)).all id = true from List.all_eq_true.mpr fun b hb => ?_]
          · decide
          · obtain ⟨y, hy, rfl⟩ := List.mem_map.mp hb
            exact decide_eq_true (Classical.byContradiction fun q => h ⟨y, hy, q⟩)
      · have all : ∀ y ∈ ls, y ∈ W := fun y hy => by
          have h1 : (ls.map fun y => decide (y ∈ W)).all id = true := by
            cases h : (ls.map fun y => decide (y ∈ W)).all id with
            | true => rfl
            | false =>
              rw [h] at z
              exact absurd rfl z
          exact of_decide_eq_true (List.all_eq_true.mp h1 _ (List.mem_map.mpr ⟨y, hy, rfl⟩))
        have e14 := s2 _ _ e1
        -- short
        refine ⟨.ref D, rfl, D, rfl, ⟨_, .inl (.inl e14)⟩, fun D3 nD3 => ?_⟩
        refine lc_it (walk_list (K := K) (a := D) (xs := vS ls)) (fun i H' => H' = upd H4 D3 (.lst (vS ((ls.take i).filter fun v => decide (v.length < n))))) rfl (fun i H' _ hW => by rw [hW]; exact .inl (.inl (same_new nD3 _ _ e14))) (fun i x H5 H5' hi hW hY => ?_) (fun H5 hW => ?_)
        · subst hW
          obtain ⟨rfl, hx⟩ := hY
          obtain ⟨y, hy', rfl⟩ := str_at hx
          have hyl' := hlm y (List.mem_of_getElem? hy')
          rw [List.length_map] at hi
          have ef : (ls.take (i + 1)).filter (fun v => decide (v.length < n)) = (ls.take i).filter (fun v => decide (v.length < n)) ++ if y.length < n then [y] else [] := by
            rw [take_snocQ hy', List.filter_append]
            congr 1
            by_cases h : y.length < n
            · rw [if_pos h, List.filter_cons, if_pos (decide_eq_true h)]
              rfl
            · rw [if_neg h, List.filter_cons, if_neg (by rw [decide_eq_false h]; exact Bool.false_ne_true)]
              rfl
          refine ⟨rfl, .str y, rfl, y, rfl, sl _ (by omega), .int (n : Int), rfl, (y.length : Int), (n : Int), rfl, rfl, _, rfl, ite2 (fun z => ?_) (fun z => ?_)⟩
          · have h : y.length < n := by have := of_decide_eq_true z; omega
            refine ⟨.str y, rfl, _, upd_same, ?_, ?_⟩
            · have := List.length_filter_le (fun v : Str => decide (v.length < n)) (ls.take i)
              rw [List.length_take] at this
              rw [List.length_map]
              exact sl' _ (by omega)
            · rw [upd_upd, vS_snoc, ef, if_pos h]
          · have h : ¬ y.length < n := fun q => z (decide_eq_true (by omega))
            show upd H4 D3 _ = upd H4 D3 _
            rw [ef, if_neg h, List.append_nil]
        rw [hW, List.length_map, List.take_of_length_le (Nat.le_refl _)]
        have lf := List.length_filter_le (fun v : Str => decide (v.length < n)) ls
        have s3 : Same H4 (upd H4 D3 (.lst (vS (ls.filter fun v => decide (v.length < n))))) := same_new nD3
        have e3 : (upd H4 D3 (.lst (vS (ls.filter fun v => decide (v.length < n))))) D3 = some (.lst (vS (ls.filter fun v => decide (v.length < n)))) := upd_same
        generalize upd H4 D3 (.lst (vS (ls.filter fun v => decide (v.length < n)))) = H6 at s3 e3
        generalize ls.filter (fun v => decide (v.length < n)) = ss at lf e3 qs'
        have s06 := (s1.trans s2).trans s3
        -- tuple(sorted(set(list(held) + short)))
        refine ⟨.ref p, rfl, p, _, rfl, .inr (.inl (.inl (s06 _ _ hp))), fun lh nlh => ⟨.ref D3, rfl, lh, D3, _, _, rfl, rfl, upd_same, same_new nlh _ _ e3, ?_, fun lc nlc => ?_⟩⟩
        · rw [List.length_map, List.length_map]
          exact sl _ (by omega)
        rw [vS_app]
        have tl := tAll_len (ys ++ ss)
        rw [List.length_append] at tl
        refine ⟨lc, ys ++ ss, rfl, .inl (.inl upd_same), by rw [List.length_append]; omega, fun sp nsp => ⟨sp, tAll (ys ++ ss), rfl, upd_same, by omega, fun zs so pm st nso => ⟨so, _, rfl, .inl ⟨.inl (.inl upd_same), fun t nt => ?_⟩⟩⟩⟩
        refine qs' all _ t zs ((((s06.trans (same_new nlh)).trans (same_new nlc)).trans (same_new nsp)).trans ((same_new nso).trans (same_new nt))) upd_same pm st
end
end LH

namespace LH
open PySem PySem.Spec PyProof.Rows L2 NdefX LamX
/-! ### what is held of a word: its short views, or nothing -/
def SV (H : Hp) : Option (List Str) → V → Prop
  | none, v => v = .non
  | some ys, v => ∃ p, v = .ref p ∧ H p = some (.tup (vS ys))
theorem SV.mono {H H' : Hp} (t : ∀ b xs, H b = some (.tup xs) → H' b = some (.tup xs)) : ∀ {st : Option (List Str)} {v : V}, SV H st v → SV H' st v
  | none, _, h => h
  | some _, _, ⟨p, e, h⟩ => ⟨p, e, t _ _ h⟩
/-- one letter more -/
def StepOk (n : Nat) (W : List Str) (l : Str) : Option (List Str) → Option (List Str) → Prop
  | none, st => st = none
  | some ys, st => ((∃ y ∈ ys, y ++ l ∉ W) → st = none) ∧ ((∀ y ∈ ys, y ++ l ∈ W) → ∃ zs, st = some zs ∧ zs.Perm (tAll (ys ++ (ys.map (· ++ l)).filter fun v => decide (v.length < n))) ∧ sortedS zs = true)
abbrev st_followV : Stmt := (defBody s_view_machine).getD 1 (.Pass ⟨0, 0, 0, 0⟩)
abbrev st_is_endV : Stmt := (defBody s_view_machine).getD 2 (.Pass ⟨0, 0, 0, 0⟩)
abbrev q_followV : Str := (("view_machine" : Str) ++ ".<locals>.") ++ "follow"
abbrev q_is_endV : Str := (("view_machine" : Str) ++ ".<locals>.") ++ "is_end"
abbrev nf_followV (cl : List (Str × Addr)) (c : Addr) : NF := NF.of st_followV "follow" q_followV cl c
abbrev nf_is_endV (cl : List (Str × Addr)) (c : Addr) : NF := NF.of st_is_endV "is_end" q_is_endV cl c
abbrev N_followV : List Str := ["held", "known", "letters", "size", "letter"]
theorem nd_followV : N_followV.Nodup := by decide +kernel
section
variable {P : Program} {w : World} {K : PySem.W.Frag} {mg : Str → Option Value} {base : Heap}
def sp_followV : List (Option V) → Sp := fun ws vs H Q _ => ∃ (kn : Addr) (kvs : List (Key × V)) (z : Str) (n : Nat) (W : List Str) (hv : V) (st : Option (List Str)), ws = [some (.ref kn), some (.str z), some (.int (n : Int))] ∧ vs = [hv] ∧ H kn = some (.dK kvs) ∧ Knows kvs W ∧ z.length ≤ 5 ∧ SV H st hv ∧ (∀ ys, st = some ys → ys.length ≤ 2000 ∧ ∀ y ∈ ys, y.length ≤ 1000) ∧
  ∀ H' b us, Same H H' → H b = none → H' b = some (.lst us) → us.length = z.length → (∀ (j c : Nat) (v : V), z.cps.toList[j]? = some c → us[j]? = some v → ∃ st', SV H' st' v ∧ StepOk n W (sg c) st st') → Q (.ref b) H'
theorem ok_followV (T : TX K mg) {f c : Addr} {cl : List (Str × Addr)} : NOk P w K mg base CX0 2 f (nf_followV cl c) ["held"] ["known", "letters", "size"] sp_followV := by
  have G_seen_behind := ok_seen_behind (P := P) (w := w) (base := base) T
  refine nok_ofC (N := N_followV) (nscC_by (by kernel_rfl)) (fun doc pm ctv us hl => match us, hl with | [_], _ => rfl) (fun ws vs H Q E h => ?_) (fun A outer s H vs ws Q E hr hf hc hl h => ?_)
  · obtain ⟨kn, kvs, z, n, W, hv, st, rfl, rfl, _⟩ := h
    rfl
  · obtain ⟨kn, kvs, z, n, W, hv, st, rfl, rfl, hk, hkn, hz, hsv, hsm, q⟩ := h
    refine ⟨_, PSs.nox (pss_one (ps_ret (pe_lc (own := [("letter", 4)]) (g := gName 4) (tt := tYes) (by rfl) nd_followV (pi_str (pv 2)) (blkOk_by (own := [("letter", 4)]) (N := N_followV) (by kernel_rfl)) (fun _ _ _ _ _ => (pg_name (i := 4) nd_followV rfl (Or.inl rfl))) (fun _ _ _ _ _ => pts_nil) (fun _ _ _ _ _ => (pe_call G_seen_behind (hr.mono (by decide)) (by rfl) T.g_seen_behind T.F_seen_behind.kp T.b_seen_behind .nil pass0 (pa_cons (pv 0) (pa_cons (pv 4) (pa_cons (pv 1) (pa_cons (pv 3) pa_nil))))))))), ?_⟩
    refine ⟨.str z, rfl, z, rfl, fun D nD => ?_⟩
    refine lc_it walk_str (fun k H' => Same H H' ∧ ∃ us, H' D = some (.lst us) ∧ us.length = k ∧ ∀ (j c : Nat) (v : V), z.cps.toList[j]? = some c → us[j]? = some v → ∃ st', SV H' st' v ∧ StepOk n W (sg c) st st') ⟨same_new nD, [], upd_same, rfl, fun j c v _ x => by simp at x⟩ (fun _ _ _ _ => trivial) (fun k y H1 H1' hk1 hW hY => ?_) (fun H1 hW => ?_)
    · obtain ⟨s1, us, d1, lu, cu⟩ := hW
      obtain ⟨rfl, c, hc, rfl⟩ := hY
      have hc' : z.cps.toList[k]? = some c := by
        rw [Array.getElem?_toList]
        exact hc
      have hkz : k < z.length := hk1
      refine ⟨rfl, lcyes ?_⟩
      have fin : ∀ (H2 : Hp) (x : V) (st' : Option (List Str)), Same H1' H2 → SV H2 st' x → StepOk n W (sg c) st st' → ∃ acc, H2 D = some (.lst acc) ∧ acc.length < sizeLine ∧ Same H (upd H2 D (.lst (acc ++ [x]))) ∧ ∃ us, (upd H2 D (.lst (acc ++ [x]))) D = some (.lst us) ∧ us.length = k + 1 ∧ ∀ (j c : Nat) (v : V), z.cps.toList[j]? = some c → us[j]? = some v → ∃ st', SV (upd H2 D (.lst (acc ++ [x]))) st' v ∧ StepOk n W (sg c) st st' := fun H2 x st' s2 sv ok => by
        have d2 := s2 _ _ d1
        have tu : ∀ b xs, H2 b = some (.tup xs) → (upd H2 D (.lst (us ++ [x]))) b = some (.tup xs) := Tups.lst d2
        refine ⟨us, d2, ?_, fun b o eb => ?_, us ++ [x], upd_same, by rw [List.length_append, lu]; rfl, fun j c' v e1 e2 => ?_⟩
        · rw [lu]
          exact Nat.lt_of_le_of_lt (show k ≤ 1000 by omega) (by decide)
        · rw [upd_ne (ne_of_none eb nD)]
          exact s2 _ _ (s1 _ _ eb)
        · by_cases hj : j < us.length
          · rw [List.getElem?_append_left hj] at e2
            obtain ⟨st2, q1, q2⟩ := cu j c' v e1 e2
            exact ⟨st2, (q1.mono fun b xs e => s2 _ _ e).mono tu, q2⟩
          · have hj2 := (List.getElem?_eq_some_iff.mp e2).1
            rw [List.length_append] at hj2
            have hj2 : j < us.length + 1 := hj2
            obtain rfl : j = us.length := by omega
            rw [List.getElem?_append_right (Nat.le_refl _), Nat.sub_self] at e2
            obtain rfl : x = v := Option.some.inj e2
            rw [lu, hc'] at e1
            obtain rfl : c = c' := Option.some.inj e1
            exact ⟨st', sv.mono tu, ok⟩
      refine ⟨hv, rfl, .str (sg c), rfl, .ref kn, rfl, .int (n : Int), rfl, hv, sg c, kn, kvs, n, W, rfl, s1 _ _ hk, hkn, (by show 1 ≤ 1000; decide), ?_⟩
      cases st with
      | none => exact .inl ⟨hsv, fin H1' .non none (Same.refl _) rfl rfl⟩
      | some ys =>
        obtain ⟨p, rfl, hp⟩ := hsv
        obtain ⟨h1, h2⟩ := hsm ys rfl
        refine .inr ⟨p, ys, rfl, s1 _ _ hp, h1, h2, fun bad H2 s2 => fin H2 .non none s2 rfl ⟨fun _ => rfl, fun al => ?_⟩, fun al H2 t zs s2 et pm so => fin H2 (.ref t) (some zs) s2 ⟨t, rfl, et⟩ ⟨fun bad => ?_, fun _ => ⟨zs, rfl, pm, so⟩⟩⟩
        · obtain ⟨y, hy, hn⟩ := bad
          exact absurd (al y hy) hn
        · obtain ⟨y, hy, hn⟩ := bad
          exact absurd (al y hy) hn
    · obtain ⟨s1, us, d1, lu, cu⟩ := hW
      exact q _ D us s1 nD d1 lu cu
def sp_is_endV : List (Option V) → Sp := fun ws vs H Q _ => ∃ (hv : V) (st : Option (List Str)), ws = [] ∧ vs = [hv] ∧ SV H st hv ∧ Q (.bl st.isSome) H
theorem ok_is_endV {f c : Addr} {cl : List (Str × Addr)} : NOk P w K mg base CX0 1 f (nf_is_endV cl c) ["held"] [] sp_is_endV := by
  refine nok_of (N := ["held"]) (nscope_by (by kernel_rfl)) (fun doc pm ctv us hl => match us, hl with | [_], _ => rfl) (fun ws vs H Q E h => ?_) (fun A outer s H vs ws Q E hr hf hc hl h => ?_)
  · obtain ⟨hv, st, rfl, rfl, _⟩ := h
    rfl
  · obtain ⟨hv, st, rfl, rfl, hsv, q⟩ := h
    refine ⟨_, PSs.nox (pss_one (ps_ret (pe_cmpR op_notN (pv 0) pe_non (nomark _)))), ?_⟩
    cases st with
    | none =>
      obtain rfl : hv = .non := hsv
      exact ⟨.non, rfl, rfl, q⟩
    | some ys =>
      obtain ⟨p, rfl, hp⟩ := hsv
      exact ⟨.ref p, rfl, rfl, q⟩
end
end LH

namespace LH
open PySem PySem.Spec PyProof.Rows L2 NdefX LamX LU
/-! ### sorted texts -/
theorem pw_sortedS : ∀ {l : List Str}, (l.Pairwise fun a b => ltCps b.cps.toList a.cps.toList = false) → sortedS l = true
  | [], _ => rfl
  | [x], _ => rfl
  | x :: y :: r, h => by
    obtain ⟨h1, h2⟩ := List.pairwise_cons.mp h
    have ih := pw_sortedS h2
    show (!ltCps y.cps.toList x.cps.toList && sortedS (y :: r)) = true
    rw [h1 y List.mem_cons_self, ih]
    rfl
theorem filter_sorted {l : List Str} (p : Str → Bool) (h : sortedS l = true) : sortedS (l.filter p) = true := pw_sortedS ((sortedS_pw h).filter p)
theorem exists_sorted (l : List Str) : ∃ ys, ys.Perm l ∧ sortedS ys = true := by
  refine ⟨l.mergeSort fun a b => !ltCps b.cps.toList a.cps.toList, List.mergeSort_perm _ _, pw_sortedS ?_⟩
  have := List.pairwise_mergeSort (le := fun a b : Str => !ltCps b.cps.toList a.cps.toList) (fun a b c h1 h2 => ?_) (fun a b => ?_) l
  · exact this.imp fun h => by simpa using h
  · have h1 : ltCps b.cps.toList a.cps.toList = false := by simpa using h1
    have h2 : ltCps c.cps.toList b.cps.toList = false := by simpa using h2
    rw [ltCps_eq] at h1 h2
    have h1 := of_decide_eq_false h1
    have h2 := of_decide_eq_false h2
    show (!ltCps c.cps.toList a.cps.toList) = true
    rw [ltCps_eq, decide_eq_false fun h => h1 (Std.lt_of_le_of_lt (Std.not_lt.mp h2) h)]
    rfl
  · show ((!ltCps b.cps.toList a.cps.toList) || (!ltCps a.cps.toList b.cps.toList)) = true
    rw [ltCps_eq, ltCps_eq]
    by_cases h : b.cps.toList < a.cps.toList
    · rw [decide_eq_true h, decide_eq_false fun q => Std.lt_irrefl (Std.lt_trans h q)]
      rfl
    · rw [decide_eq_false h]
      rfl
theorem tAll_nd (xs : List Str) : (tAll xs).Nodup := by
  have go : ∀ (xs l : List Str), l.Nodup → (xs.foldl tAdd l).Nodup := by
    intro xs
    induction xs with
    | nil => intro l h; exact h
    | cons x r ih =>
      intro l h
      refine ih _ ?_
      unfold tAdd
      by_cases q : x ∈ l
      · rw [if_pos q]; exact h
      · rw [if_neg q]; exact List.nodup_cons.mpr ⟨q, h⟩
  exact go xs [] List.nodup_nil
/-! ### the parts of a list -/
def subs {α : Type} : List α → List (List α)
  | [] => [[]]
  | a :: r => subs r ++ (subs r).map (a :: ·)
theorem subs_len {α : Type} : ∀ l : List α, (subs l).length = 2 ^ l.length
  | [] => rfl
  | a :: r => by
    show (subs r ++ (subs r).map (a :: ·)).length = 2 ^ (r.length + 1)
    rw [List.length_append, List.length_map, subs_len r, Nat.pow_succ]
    omega
theorem mem_subs {α : Type} : ∀ {l y : List α}, y.Sublist l → y ∈ subs l
  | _, _, .slnil => List.mem_singleton.mpr rfl
  | _, _, .cons a h => List.mem_append_left _ (mem_subs h)
  | _, _, .cons₂ a h => List.mem_append_right _ (List.mem_map.mpr ⟨_, mem_subs h, rfl⟩)
theorem subs_sub {α : Type} : ∀ {l y : List α}, y ∈ subs l → y.Sublist l
  | [], y, h => by
    rw [List.mem_singleton.mp h]
    exact .slnil
  | a :: r, y, h => by
    rcases List.mem_append.mp h with q | q
    · exact (subs_sub q).cons a
    · obtain ⟨x, hx, rfl⟩ := List.mem_map.mp q
      exact (subs_sub hx).cons₂ a
theorem subs_nd {α : Type} : ∀ {l : List α}, l.Nodup → (subs l).Nodup
  | [], _ => by simp [subs]
  | a :: r, h => by
    obtain ⟨h1, h2⟩ := List.nodup_cons.mp h
    have ih := subs_nd h2
    refine List.nodup_append.mpr ⟨ih, List.Pairwise.map _ (fun x y hn e => hn (List.cons.inj e).2) ih, fun x hx y hy e => ?_⟩
    obtain ⟨u, _, rfl⟩ := List.mem_map.mp hy
    exact h1 ((subs_sub hx).subset (e ▸ List.mem_cons_self))
/-! ### the short words -/
def wordsL (cs : List Nat) : Nat → List Str
  | 0 => [⟨#[]⟩]
  | m + 1 => (wordsL cs m).flatMap fun y => cs.map fun c => y ++ sg c
def shortL (cs : List Nat) : Nat → List Str
  | 0 => []
  | m + 1 => shortL cs m ++ wordsL cs m
theorem wordsL_len (cs : List Nat) : ∀ m, (wordsL cs m).length = cs.length ^ m
  | 0 => rfl
  | m + 1 => by
    show ((wordsL cs m).flatMap fun y => cs.map fun c => y ++ sg c).length = _
    have go : ∀ l : List Str, (l.flatMap fun y => cs.map fun c => y ++ sg c).length = l.length * cs.length := by
      intro l
      induction l with
      | nil => simp
      | cons x r ih =>
        rw [List.flatMap_cons, List.length_append, ih, List.length_map, List.length_cons, Nat.add_mul, Nat.one_mul, Nat.add_comm]
    rw [go, wordsL_len cs m, Nat.pow_succ]
theorem wordsL_ok (cs : List Nat) : ∀ (m : Nat) (x : Str), x ∈ wordsL cs m → x.length = m ∧ ∀ c ∈ x.cps.toList, c ∈ cs
  | 0, x, h => by
    rw [List.mem_singleton.mp h]
    exact ⟨rfl, fun c hc => nomatch hc⟩
  | m + 1, x, h => by
    obtain ⟨y, hy, hx⟩ := List.mem_flatMap.mp h
    obtain ⟨c, hc, rfl⟩ := List.mem_map.mp hx
    obtain ⟨h1, h2⟩ := wordsL_ok cs m y hy
    refine ⟨?_, fun d hd => ?_⟩
    · show (y.cps ++ #[c]).size = m + 1
      rw [Array.size_append]
      show y.cps.size + 1 = m + 1
      rw [show y.cps.size = m from h1]
    · have hd' : d ∈ (y.cps ++ #[c]).toList := hd
      rw [Array.toList_append] at hd'
      rcases List.mem_append.mp hd' with z1 | z1
      · exact h2 d z1
      · rw [List.mem_singleton.mp z1]
        exact hc
theorem wordsL_all (cs : List Nat) : ∀ (m : Nat) (x : Str), x.length = m → (∀ c ∈ x.cps.toList, c ∈ cs) → x ∈ wordsL cs m
  | 0, x, h, _ => by
    cases x with
    | mk cps =>
      rw [show cps = #[] from Array.size_eq_zero_iff.mp h]
      exact List.mem_singleton.mpr rfl
  | m + 1, x, h, hc => by
    obtain ⟨y, c, rfl, hy, h2, h3⟩ := str_last h
    exact List.mem_flatMap.mpr ⟨y, wordsL_all cs m y hy fun d hd => hc d (h2 d hd), List.mem_map.mpr ⟨c, hc c h3, rfl⟩⟩
theorem mem_shortL (cs : List Nat) : ∀ (n : Nat) (x : Str), x ∈ shortL cs n ↔ x.length < n ∧ ∀ c ∈ x.cps.toList, c ∈ cs
  | 0, x => ⟨fun h => (nomatch h), fun h => absurd h.1 (Nat.not_lt_zero _)⟩
  | n + 1, x => by
    show x ∈ shortL cs n ++ wordsL cs n ↔ _
    rw [List.mem_append, mem_shortL cs n x]
    constructor
    · rintro (⟨a, b⟩ | h)
      · exact ⟨by omega, b⟩
      · obtain ⟨a, b⟩ := wordsL_ok cs n x h
        exact ⟨by omega, b⟩
    · rintro ⟨a, b⟩
      by_cases h : x.length < n
      · exact .inl ⟨h, b⟩
      · exact .inr (wordsL_all cs n x (by omega) b)
/-- the short words of these letters, rising -/
structure Shorts (cs : List Nat) (n : Nat) (Wd : List Str) : Prop where
  nd : Wd.Nodup
  so : sortedS Wd = true
  mem : ∀ x, x ∈ Wd ↔ x.length < n ∧ ∀ c ∈ x.cps.toList, c ∈ cs
theorem exists_shorts (cs : List Nat) (n : Nat) : ∃ Wd, Shorts cs n Wd ∧ Wd.length ≤ (shortL cs n).length := by
  obtain ⟨ys, pm, so⟩ := exists_sorted (tAll (shortL cs n))
  refine ⟨ys, ⟨pm.nodup_iff.mpr (tAll_nd _), so, fun x => ?_⟩, ?_⟩
  · rw [pm.mem_iff, mem_tAll, mem_shortL]
  · rw [pm.length_eq]
    exact tAll_len _
/-! ### the states of view_machine -/
def allSt (Wd : List Str) : List (Option (List Str)) := none :: (subs Wd).map some
def keyS : Option (List Str) → NestedKey
  | none => .none
  | some ys => .tup (ys.map .text)
theorem keyS_inj {a b : Option (List Str)} (h : keyS a = keyS b) : a = b := by
  cases a with
  | none =>
    cases b with
    | none => rfl
    | some ys => cases h
  | some xs =>
    cases b with
    | none => cases h
    | some ys =>
      have e := NestedKey.tup.inj h
      rw [List.map_inj_right (fun x y q => NestedKey.text.inj q)] at e
      rw [e]
theorem allSt_nd {Wd : List Str} (h : Wd.Nodup) : (allSt Wd).Nodup := by
  refine List.nodup_cons.mpr ⟨fun q => ?_, List.Pairwise.map _ (fun x y hn e => hn (Option.some.inj e)) (subs_nd h)⟩
  obtain ⟨x, _, e⟩ := List.mem_map.mp q
  cases e
theorem allSt_len (Wd : List Str) : (allSt Wd).length = 2 ^ Wd.length + 1 := by
  show ((subs Wd).map some).length + 1 = _
  rw [List.length_map, subs_len]
theorem depth_texts : ∀ ys : List Str, NestedKey.depthAll (ys.map .text) = 0
  | [] => rfl
  | y :: r => by
    show max 0 (NestedKey.depthAll (r.map .text)) = 0
    rw [depth_texts r]
    rfl
theorem keyS_depth (st : Option (List Str)) : (keyS st).depth ≤ 8 := by
  cases st with
  | none => exact Nat.zero_le _
  | some ys =>
    show NestedKey.depthAll (ys.map .text) + 1 ≤ 8
    rw [depth_texts]
    decide
theorem nvs_texts {H : Hp} : ∀ ys : List Str, NVs H (ys.map .text) (vS ys)
  | [] => .nil
  | y :: r => .cons (.text y) (nvs_texts r)
theorem SV.nv {H : Hp} {st : Option (List Str)} {v : V} (h : SV H st v) : NV H (keyS st) v := by
  cases st with
  | none =>
    obtain rfl : v = .non := h
    exact .none
  | some ys =>
    obtain ⟨p, rfl, e⟩ := h
    exact .tup e (nvs_texts ys)
theorem nvs_textsV {H : Hp} : ∀ {ys : List Str} {vs : List V}, NVs H (ys.map .text) vs → vs = vS ys
  | [], _, .nil => rfl
  | y :: r, _, .cons a t => by
    cases a
    rw [nvs_textsV t]
    rfl
theorem SV.of {H : Hp} {st : Option (List Str)} {v : V} (h : NV H (keyS st) v) : SV H st v := by
  cases st with
  | none =>
    cases h
    rfl
  | some ys =>
    cases h with
    | tup e q =>
      rw [nvs_textsV q] at e
      exact ⟨_, rfl, e⟩
end LH

namespace LH
open PySem PySem.Spec PyProof.Rows L2 NdefX LamX LU
def nxt (n : Nat) (W Wd : List Str) (l : Str) : Option (List Str) → Option (List Str)
  | none => none
  | some ys => if ∀ y ∈ ys, y ++ l ∈ W then some (Wd.filter fun v => decide (v ∈ ys ∨ (v ∈ ys.map (· ++ l) ∧ v.length < n))) else none
theorem nxt_some {n : Nat} {W Wd : List Str} {l : Str} {ys : List Str} : nxt n W Wd l (some ys) = if ∀ y ∈ ys, y ++ l ∈ W then some (Wd.filter fun v => decide (v ∈ ys ∨ (v ∈ ys.map (· ++ l) ∧ v.length < n))) else none := rfl
theorem allSt_some {Wd ys : List Str} (h : some ys ∈ allSt Wd) : ys.Sublist Wd := by
  rcases List.mem_cons.mp h with q | q
  · cases q
  · obtain ⟨x, hx, e⟩ := List.mem_map.mp q
    cases e
    exact subs_sub hx
theorem allSt_mem {Wd ys : List Str} (h : ys.Sublist Wd) : some ys ∈ allSt Wd := List.mem_cons_of_mem _ (List.mem_map.mpr ⟨ys, mem_subs h, rfl⟩)
theorem nxt_mem {n : Nat} {W Wd : List Str} {l : Str} (st : Option (List Str)) : nxt n W Wd l st ∈ allSt Wd := by
  cases st with
  | none => exact List.mem_cons_self
  | some ys =>
    rw [nxt_some]
    split
    · exact allSt_mem List.filter_sublist
    · exact List.mem_cons_self
theorem step_nxt {cs : List Nat} {n : Nat} {W Wd : List Str} (S : Shorts cs n Wd) {st st' : Option (List Str)} (h : st ∈ allSt Wd) {c : Nat} (hc : c ∈ cs) (q : StepOk n W (sg c) st st') : st' = nxt n W Wd (sg c) st := by
  cases st with
  | none => exact q
  | some ys =>
    have sb := allSt_some h
    obtain ⟨q1, q2⟩ := q
    rw [nxt_some]
    by_cases al : ∀ y ∈ ys, y ++ sg c ∈ W
    · rw [if_pos al]
      obtain ⟨zs, rfl, pm, so⟩ := q2 al
      congr 1
      refine sorted_one so (filter_sorted _ S.so) ?_
      refine (List.perm_ext_iff_of_nodup (pm.nodup_iff.mpr (tAll_nd _)) (S.nd.filter _)).mpr fun x => ?_
      rw [pm.mem_iff, mem_tAll, List.mem_append, List.mem_filter, List.mem_filter, decide_eq_true_iff, decide_eq_true_iff]
      constructor
      · rintro (h | ⟨h1, h2⟩)
        · exact ⟨sb.subset h, .inl h⟩
        · refine ⟨(S.mem x).mpr ⟨h2, fun d hd => ?_⟩, .inr ⟨h1, h2⟩⟩
          obtain ⟨y, hy, rfl⟩ := List.mem_map.mp h1
          have hd' : d ∈ (y.cps ++ #[c]).toList := hd
          rw [Array.toList_append] at hd'
          rcases List.mem_append.mp hd' with z1 | z1
          · exact ((S.mem y).mp (sb.subset hy)).2 d z1
          · rw [List.mem_singleton.mp z1]
            exact hc
      · rintro ⟨_, h | h⟩
        · exact .inl h
        · exact .inr h
    · rw [if_neg al]
      refine q1 ?_
      exact Classical.byContradiction fun z => al fun y hy => Classical.byContradiction fun w => z ⟨y, hy, w⟩
/-! ### words: their views -/
abbrev txt (y : List Nat) : Str := ⟨y.toArray⟩
/-- all views of at most n letters are in W -/
def Known (n : Nat) (W : List Str) (w : List Nat) : Prop := ∀ y : List Nat, y.Sublist w → y.length ≤ n → txt y ∈ W
theorem sub_snoc {y w : List Nat} {c : Nat} : y.Sublist (w ++ [c]) ↔ y.Sublist w ∨ ∃ y', y = y' ++ [c] ∧ y'.Sublist w := by
  rw [List.sublist_append_iff]
  constructor
  · rintro ⟨a, b, rfl, h1, h2⟩
    cases h2 with
    | cons _ h =>
      cases h
      rw [List.append_nil]
      exact .inl h1
    | cons_cons _ h =>
      cases h
      exact .inr ⟨a, rfl, h1⟩
  · rintro (h | ⟨a, rfl, h⟩)
    · exact ⟨y, [], (List.append_nil y).symm, h, List.nil_sublist _⟩
    · exact ⟨a, [c], rfl, h, List.Sublist.refl _⟩
theorem txt_snoc (y : List Nat) (c : Nat) : txt y ++ sg c = txt (y ++ [c]) := by
  show (⟨y.toArray ++ #[c]⟩ : Str) = ⟨(y ++ [c]).toArray⟩
  congr 1
  refine Array.toList_inj.mp ?_
  rw [Array.toList_append]
theorem known_snoc {n : Nat} {W : List Str} {w : List Nat} {c : Nat} : Known n W (w ++ [c]) ↔ Known n W w ∧ ∀ y : List Nat, y.Sublist w → y.length < n → txt y ++ sg c ∈ W := by
  constructor
  · intro h
    refine ⟨fun y hy hn => h y (sub_snoc.mpr (.inl hy)) hn, fun y hy hn => ?_⟩
    rw [txt_snoc]
    exact h _ (sub_snoc.mpr (.inr ⟨y, rfl, hy⟩)) (by rw [List.length_append]; exact hn)
  · rintro ⟨h1, h2⟩ y hy hn
    rcases sub_snoc.mp hy with h | ⟨y', rfl, h⟩
    · exact h1 y h hn
    · rw [← txt_snoc]
      rw [List.length_append] at hn
      exact h2 y' h hn
open Classical in
/-- what is held behind a word -/
noncomputable def stW (n : Nat) (W Wd : List Str) (w : List Nat) : Option (List Str) := if Known n W w then some (Wd.filter fun v => decide (v.cps.toList.Sublist w)) else none
theorem txt_list (v : Str) : txt v.cps.toList = v := by
  cases v
  rfl
theorem stW_step {cs : List Nat} {n : Nat} {W Wd : List Str} (S : Shorts cs n Wd) {w : List Nat} (hw : ∀ d ∈ w, d ∈ cs) {c : Nat} (hc : c ∈ cs) : nxt n W Wd (sg c) (stW n W Wd w) = stW n W Wd (w ++ [c]) := by
  unfold stW
  by_cases k : Known n W w
  · rw [if_pos k]
    rw [nxt_some]
    have e : (∀ y ∈ Wd.filter (fun v => decide (v.cps.toList.Sublist w)), y ++ sg c ∈ W) ↔ Known n W (w ++ [c]) := by
      rw [known_snoc]
      constructor
      · intro h
        refine ⟨k, fun y hy hn => h _ (List.mem_filter.mpr ⟨(S.mem _).mpr ⟨?_, fun d hd => hw d (hy.subset hd)⟩, decide_eq_true hy⟩)⟩
        show (y.toArray).size < n
        rw [List.size_toArray]
        exact hn
      · rintro ⟨_, h⟩ y hy
        obtain ⟨h1, h2⟩ := List.mem_filter.mp hy
        have := h y.cps.toList (of_decide_eq_true h2) (by rw [Array.length_toList]; exact ((S.mem y).mp h1).1)
        rw [txt_list] at this
        exact this
    by_cases q : Known n W (w ++ [c])
    · rw [if_pos (e.mpr q), if_pos q]
      congr 1
      refine List.filter_congr fun v hv => ?_
      have hvn := ((S.mem v).mp hv).1
      refine decide_eq_decide.mpr ?_
      rw [sub_snoc]
      constructor
      · rintro (h | ⟨h, _⟩)
        · exact .inl (of_decide_eq_true (List.mem_filter.mp h).2)
        · obtain ⟨y, hy, rfl⟩ := List.mem_map.mp h
          refine .inr ⟨y.cps.toList, ?_, of_decide_eq_true (List.mem_filter.mp hy).2⟩
          show (y.cps ++ #[c]).toList = _
          rw [Array.toList_append]
      · rintro (h | ⟨y', e', h⟩)
        · exact .inl (List.mem_filter.mpr ⟨hv, decide_eq_true h⟩)
        · refine .inr ⟨List.mem_map.mpr ⟨txt y', List.mem_filter.mpr ⟨(S.mem _).mpr ⟨?_, fun d hd => hw d (h.subset hd)⟩, decide_eq_true h⟩, ?_⟩, hvn⟩
          · have l1 : v.cps.toList.length = y'.length + 1 := by rw [e', List.length_append]; rfl
            rw [Array.length_toList] at l1
            show (y'.toArray).size < n
            rw [List.size_toArray]
            have : v.cps.size < n := hvn
            omega
          · rw [txt_snoc, ← e', txt_list]
    · rw [if_neg (fun z => q (e.mp z)), if_neg q]
  · rw [if_neg k, if_neg fun z => k (known_snoc.mp z).1]
    rfl
theorem stW_nil {cs : List Nat} {n : Nat} {W Wd : List Str} (S : Shorts cs n Wd) (hn : 1 ≤ n) : stW n W Wd [] = if txt [] ∈ W then some [txt []] else none := by
  have e : Known n W [] ↔ txt [] ∈ W := ⟨fun h => h [] (List.Sublist.refl _) (Nat.zero_le _), fun h y hy _ => by rw [List.sublist_nil.mp hy]; exact h⟩
  unfold stW
  by_cases k : txt [] ∈ W
  · rw [if_pos (e.mpr k), if_pos k]
    congr 1
    have hm : txt [] ∈ Wd := (S.mem _).mpr ⟨hn, fun c hc => nomatch hc⟩
    refine sorted_one (filter_sorted _ S.so) rfl ?_
    refine (List.perm_ext_iff_of_nodup (S.nd.filter _) (by simp)).mpr fun x => ?_
    rw [List.mem_filter, decide_eq_true_iff, List.sublist_nil, List.mem_singleton]
    constructor
    · rintro ⟨_, h⟩
      rw [← txt_list x, h]
    · rintro rfl
      exact ⟨hm, rfl⟩
  · rw [if_neg (fun z => k (e.mp z)), if_neg k]
theorem stW_some {n : Nat} {W Wd : List Str} {w : List Nat} : (stW n W Wd w).isSome = true ↔ Known n W w := by
  unfold stW
  by_cases k : Known n W w
  · rw [if_pos k]
    exact ⟨fun _ => k, fun _ => rfl⟩
  · rw [if_neg k]
    exact ⟨(fun h => nomatch h), fun h => absurd h k⟩
end LH

namespace LH
open PySem PySem.Spec PyProof.Rows L2 NdefX LamX LU
theorem knows_put {kvs : List (Key × V)} {W : List Str} {y : Str} {z : V} (h : Knows kvs W) : Knows (putK kvs (Sum.inr y) z) (W ++ [y]) := fun x => by
  rw [valV_put]
  by_cases e : x = y
  · subst e
    rw [if_pos rfl]
    exact (decide_eq_true (List.mem_append_right _ (List.mem_singleton.mpr rfl))).symm
  · rw [if_neg fun q => e (Sum.inr.inj q), h x]
    refine decide_eq_decide.mpr ?_
    rw [List.mem_append, List.mem_singleton]
    exact ⟨.inl, fun q => q.elim id fun q => absurd q e⟩
theorem free_followV : ∀ y ∈ (C8.fnScope st_followV).names, y.2 = .free → (defScope s_view_machine).names.lookup y.1 = some .cell ∨ (defScope s_view_machine).names.lookup y.1 = some .free := by decide +kernel
theorem free_is_endV : ∀ y ∈ (C8.fnScope st_is_endV).names, y.2 = .free → (defScope s_view_machine).names.lookup y.1 = some .cell ∨ (defScope s_view_machine).names.lookup y.1 = some .free := by decide +kernel
def nm_view_machine : Nat → Nat → Str := fun l _ => if l = lineOf st_followV then q_followV else q_is_endV
abbrev xV (P : Program) (w : World) (K : PySem.W.Frag) (mg : Str → Option Value) (base : Heap) (f c : Addr) (A : Around) (outer : List Env) (s : Shared) (H : Hp) (E : XK) : Cx := (cxOf CX0 P w K mg base N_view_machine "view_machine" (defScope s_view_machine) f (.ref c) A outer s H E).nox
section
variable {P : Program} {w : World} {K : PySem.W.Frag} {mg : Str → Option Value} {base : Heap}
theorem cap_fV {f c : Addr} {A : Around} {outer : List Env} {s : Shared} {H : Hp} {E : XK} (ok : (xV P w K mg base f c A outer s H E).Ok) : Caps (xV P w K mg base f c A outer s H E) (cloFrom (xV P w K mg base f c A outer s H E).env.cells (C8.fnScope st_followV).names []) ["known", "letters", "size"] [3, 0, 2] := Caps.made ok free_followV (by decide +kernel) rfl
theorem cap_eV {f c : Addr} {A : Around} {outer : List Env} {s : Shared} {H : Hp} {E : XK} (ok : (xV P w K mg base f c A outer s H E).Ok) : Caps (xV P w K mg base f c A outer s H E) (cloFrom (xV P w K mg base f c A outer s H E).env.cells (C8.fnScope st_is_endV).names []) [] [] := Caps.made ok free_is_endV (by decide +kernel) rfl
theorem cap_aV {f c : Addr} {A : Around} {outer : List Env} {s : Shared} {H : Hp} {E : XK} : Caps (xV P w K mg base f c A outer s H E) (xV P w K mg base f c A outer s H E).env.cells ["known", "letters", "size"] [3, 0, 2] := ⟨fun _ _ e => e, by
  intro y hy
  simp only [List.mem_cons, List.mem_nil_iff, or_false] at hy
  rcases hy with rfl | rfl | rfl
  · exact .inl rfl
  · exact .inl rfl
  · exact .inl rfl, fun _ _ _ e => e, rfl⟩
def sp_view_machine (tabs : List NTab) : Sp := fun vs H Q _ => ∃ (z : Str) (l : Addr) (ws : List Str) (n : Nat), vs = [.str z, .ref l, .int (n : Int)] ∧ IsLet z ∧ 1 ≤ n ∧ n ≤ 1000 ∧ (shortL z.cps.toList n).length ≤ 15 ∧ H l = some (.lst (vS ws)) ∧ ws.length ≤ 100000 ∧ TabsN tabs H ∧
  ∀ H' p (M : Mach), ExtN H H' → TabsN tabs H' → MachAt H' p M → M.Ok → M.z = z → M.rows.length ≤ 2 ^ (shortL z.cps.toList n).length + 1 → Canon z.length M.rows M.ends → (∀ cs, (∀ c ∈ cs, c ∈ z.cps.toList) → (M.has cs = true ↔ Known n ws cs)) → Q (.ref p) H'
def tMid (t : TE) : TE := fun σ H Q => ∃ M : V → Hp → Prop, t σ H M ∧ ∀ v H', M v H' → Q v H'
/-- an expression of which two ways end alike -/
theorem pe_mid2 {X : Cx} {e : Expr} {t : TE} (h : PE X e t) : PE X e (tMid t) := by
  refine ⟨fun pins s σ H Q I q => ?_⟩
  obtain ⟨M, h1, h2⟩ := q
  refine thn (h.run pins s σ H _ I h1) fun u s1 ⟨x, H1, I1, r, m⟩ => ?_
  exact ⟨x, H1, I1, r, h2 x H1 m⟩
end
end LH

namespace LH
open PySem PySem.Spec PyProof.Rows L2 NdefX LamX LU
theorem stW_mem {n : Nat} {W Wd : List Str} {w : List Nat} : stW n W Wd w ∈ allSt Wd := by
  unfold stW
  by_cases k : Known n W w
  · rw [if_pos k]
    exact allSt_mem List.filter_sublist
  · rw [if_neg k]
    exact List.mem_cons_self
theorem s_e : (Str.ofString "" : Str) = txt [] := by decide +kernel
def uV (Wd : List Str) (s : Nat) : Option (List Str) := (allSt Wd).getD s none
def rV (n : Nat) (W Wd : List Str) (cs : List Nat) (s : Nat) : List Nat := cs.map fun c => (allSt Wd).idxOf (nxt n W Wd (sg c) (uV Wd s))
theorem uV_mem {Wd : List Str} {s : Nat} (h : s < (allSt Wd).length) : uV Wd s ∈ allSt Wd := List.mem_of_getElem? (show (allSt Wd)[s]? = some (uV Wd s) by unfold uV; rw [List.getD_eq_getElem?_getD, List.getElem?_eq_getElem h]; rfl)
theorem uV_idx {Wd : List Str} {st : Option (List Str)} (h : st ∈ allSt Wd) : (allSt Wd).idxOf st < (allSt Wd).length ∧ uV Wd ((allSt Wd).idxOf st) = st := by
  have l := List.idxOf_lt_length_iff.mpr h
  refine ⟨l, ?_⟩
  unfold uV
  rw [List.getD_eq_getElem?_getD, List.getElem?_eq_getElem l, List.getElem_idxOf]
  rfl
theorem uV_inj {Wd : List Str} (nd : Wd.Nodup) {s t : Nat} (hs : s < (allSt Wd).length) (ht : t < (allSt Wd).length) (e : uV Wd s = uV Wd t) : s = t := by
  unfold uV at e
  rw [List.getD_eq_getElem?_getD, List.getD_eq_getElem?_getD, List.getElem?_eq_getElem hs, List.getElem?_eq_getElem ht] at e
  exact (List.getElem_inj (allSt_nd nd)).mp e
theorem rV_run {cs : List Nat} {n : Nat} {W Wd : List Str} (S : Shorts cs n Wd) : ∀ (w v : List Nat) (s : Nat), uV Wd s = stW n W Wd (v.map fun i => cs.getD i 0) → s < (allSt Wd).length → (∀ i ∈ v, i < cs.length) → (∀ i ∈ w, i < cs.length) → uV Wd (runR (rV n W Wd cs) s w) = stW n W Wd ((v ++ w).map fun i => cs.getD i 0)
  | [], v, s, e, _, _, _ => by
    rw [List.append_nil]
    exact e
  | i :: w, v, s, e, hs, hv, hw => by
    have hi := hw i List.mem_cons_self
    have hc : cs.getD i 0 ∈ cs := by
      rw [List.getD_eq_getElem?_getD, List.getElem?_eq_getElem hi]
      exact List.getElem_mem hi
    have st : (rV n W Wd cs s).getD i 0 = (allSt Wd).idxOf (nxt n W Wd (sg (cs.getD i 0)) (uV Wd s)) := by
      unfold rV
      rw [List.getD_eq_getElem?_getD, List.getElem?_map, List.getElem?_eq_getElem hi, List.getD_eq_getElem?_getD, List.getElem?_eq_getElem hi]
      rfl
    obtain ⟨a, b⟩ := uV_idx (nxt_mem (n := n) (W := W) (Wd := Wd) (l := sg (cs.getD i 0)) (uV Wd s))
    have hv' : ∀ d ∈ v.map (fun i => cs.getD i 0), d ∈ cs := fun d hd => by
      obtain ⟨j, hj, rfl⟩ := List.mem_map.mp hd
      rw [List.getD_eq_getElem?_getD, List.getElem?_eq_getElem (hv j hj)]
      exact List.getElem_mem (hv j hj)
    have e2 : uV Wd ((allSt Wd).idxOf (nxt n W Wd (sg (cs.getD i 0)) (uV Wd s))) = stW n W Wd ((v ++ [i]).map fun i => cs.getD i 0) := by
      rw [b, e, stW_step S hv' hc, List.map_append]
      rfl
    show uV Wd (runR (rV n W Wd cs) ((rV n W Wd cs s).getD i 0) w) = _
    rw [st, rV_run S w (v ++ [i]) _ e2 a (fun j hj => (List.mem_append.mp hj).elim (hv j) fun q => by rw [List.mem_singleton.mp q]; exact hi) fun j hj => hw j (List.mem_cons_of_mem _ hj), List.append_assoc]
    rfl
end LH

namespace LH
open PySem PySem.Spec PyProof.Rows L2 NdefX LamX LU
theorem putK_le (c : List (Key × V)) (k : Key) (x : V) : (putK c k x).length ≤ c.length + 1 := by
  unfold putK
  split
  · rw [List.length_map]
    omega
  · rw [List.length_append]
    exact Nat.le_refl _
theorem nvs_of {H : Hp} : ∀ {ks : List NestedKey} {us : List V}, us.length = ks.length → (∀ (j : Nat) (k : NestedKey) (v : V), ks[j]? = some k → us[j]? = some v → NV H k v) → NVs H ks us
  | [], [], _, _ => .nil
  | [], _ :: _, h, _ => nomatch h
  | _ :: _, [], h, _ => nomatch h
  | k :: ks, u :: us, h, q => .cons (q 0 k u rfl rfl) (nvs_of (Nat.succ.inj h) fun j a b x y => q (j + 1) a b x y)
section
variable {P : Program} {w : World} {K : PySem.W.Frag} {mg : Str → Option Value} {base : Heap}
theorem ok_view_machine (T : TX K mg) {c PT : Addr} {tabs : List NTab} (F : FunC K "view_machine" "view_machine" s_view_machine T.a_view_machine T.fd_view_machine c) (TB : TabB base mg c PT) (hin : (PT, nm_view_machine) ∈ tabs) (huq : ∀ p ∈ tabs, p.1 = PT → p.2 = nm_view_machine) : FnOk P w K mg base CX0 7 T.a_view_machine T.fd_view_machine ["letters", "views", "size"] (sp_view_machine tabs) := by
  have G_built : FnOk P w K mg base CX0 6 T.a_built T.fd_built ["letters", "start", "follow", "is_end"] (sp_builtU P w K mg base) := ok_builtU T
  refine F.ok sc_view_machine (fun vs H Q E h => ?_) (fun A outer s H vs Q E hr h => ?_)
  · obtain ⟨z, l, ws, n, rfl, _⟩ := h
    rfl
  · obtain ⟨z, l, ws, n, rfl, hz, hn, hn1, hfew, hl, hws, tb0, q⟩ := h
    refine ⟨_, (pss_cons (ps_set (i := 3) sc_view_machine.nd rfl (Or.inr rfl) (pe_dc (own := [("view", 6)]) (g := gName 6) (tt := tYes) (by rfl) sc_view_machine.nd (pi_listK K rfl (pv 1)) (blkOk_by (own := [("view", 6)]) (N := N_view_machine) (by kernel_rfl)) (fun _ _ _ _ _ => (pg_name (i := 6) sc_view_machine.nd rfl (Or.inl rfl))) (fun _ _ _ _ _ => pts_nil) (fun _ _ _ _ _ => (pv 6)) (fun _ _ _ _ _ => pe_bl)))
        (pss_cons (ps_ndefMS (st := st_followV) (i := 4) rfl TB rfl hin (by kernel_rfl) huq free_followV rfl rfl rfl sc_view_machine.nd rfl (Or.inl rfl) (Or.inr rfl))
        (pss_cons (ps_ndefMS (st := st_is_endV) (i := 5) rfl TB rfl hin (by kernel_rfl) huq free_is_endV rfl rfl rfl sc_view_machine.nd rfl (Or.inl rfl) (Or.inr rfl))
        (pss_one (ps_ret (pe_callTr G_built (hr.mono (by decide)) (by rfl) T.g_built T.F_built.kp T.b_built (fun _ => cap_aV) (fun _ => rfl) (pa_cons (pv 0) (pa_cons (pe_mid2 (pe_ifExp (pt_cmp (pc_din (hu_of hr) pe_str (pv 3))) (pe_tup (pa_cons pe_str pa_nil)) pe_non)) (pa_cons (pv 4) (pa_cons (pv 5) pa_nil)))))))))), ?_⟩
    obtain ⟨Wd, S, lW⟩ := exists_shorts z.cps.toList n
    -- known
    refine ⟨.ref l, rfl, l, rfl, ⟨_, .inl (.inl hl)⟩, fun D nD => ?_⟩
    refine dc_it (walk_list (K := K) (a := l) (xs := vS ws)) (fun i H' => ∃ kvs : List (Key × V), H' = upd H D (.dK kvs) ∧ kvs.length ≤ i ∧ Knows kvs (ws.take i)) ⟨[], rfl, Nat.le_refl _, fun y => (decide_eq_false fun h : y ∈ [] => nomatch h).symm⟩ (fun i H' _ hW => by obtain ⟨_, rfl, _⟩ := hW; exact .inl (.inl (same_new nD _ _ hl))) (fun i x H1 H1' hi hW hY => ?_) (fun H1 hW => ?_)
    · obtain ⟨kvs, rfl, lk, kk⟩ := hW
      obtain ⟨rfl, hx⟩ := hY
      obtain ⟨y, hy, rfl⟩ := str_at hx
      rw [List.length_map] at hi
      refine ⟨rfl, lcyes ⟨.str y, rfl, kvs, Sum.inr y, rfl, upd_same, Nat.lt_of_le_of_lt (show kvs.length ≤ 1000000 by omega) (by decide), putK kvs (Sum.inr y) (.bl true), by rw [upd_upd], Nat.le_trans (putK_le _ _ _) (by omega), ?_⟩⟩
      rw [take_snocQ hy]
      exact knows_put kk
    obtain ⟨kvs, rfl, _, kn⟩ := hW
    rw [List.length_map, List.take_of_length_le (Nat.le_refl _)] at kn
    have sm1 : Same H (upd H D (.dK kvs)) := same_new nD
    have ek1 : (upd H D (.dK kvs)) D = some (.dK kvs) := upd_same
    generalize upd H D (.dK kvs) = H1 at sm1 ek1
    refine ⟨tb0.ext sm1, fun f1 c1 H2 ex2 ng2 tb2 nf1 ef1 ec1 => ?_⟩
    refine ⟨tb2, fun f2 c2 H3 ex3 ng3 tb3 nf2 ef2 ec2 => ?_⟩
    have s13 : ∀ b o, H1 b = some o → (∀ ps, o ≠ .tbl ps) → H3 b = some o := fun b o eb n => ex3 b o (ex2 b o eb n) n
    have ek3 := s13 _ _ ek1 (by intro ps z; cases z)
    refine ⟨.str z, rfl, ?_⟩
    refine ⟨fun v H' => Same H3 H' ∧ SV H' (stW n ws Wd []) v, ⟨.ref D, rfl, D, _, rfl, DGet.k (k := Sum.inr (Str.ofString "")) ek3, _, rfl, ite2 (fun y => ?_) (fun y => ?_)⟩, fun v0 H3' hv => ?_⟩
    · have hm : txt [] ∈ ws := by
        rw [kn, s_e] at y
        exact of_decide_eq_true y
      refine ⟨by show 1 ≤ sizeLine; decide, fun p0 np0 => ⟨same_new np0, ?_⟩⟩
      rw [stW_nil S hn, if_pos hm]
      refine ⟨p0, rfl, ?_⟩
      rw [upd_same, s_e]
      rfl
    · have hm : txt [] ∉ ws := fun h => y (by rw [kn, s_e]; exact decide_eq_true h)
      refine ⟨Same.refl _, ?_⟩
      rw [stW_nil S hn, if_neg hm]
      rfl
    obtain ⟨s30, sv0⟩ := hv
    refine ⟨.ref f1, rfl, .ref f2, rfl, rfl, fun ok H4 hout hnone CT => ?_⟩
    have f31 : H3' f1 = some (FnO f1 (nf_followV (cloFrom (xV P w K mg base T.a_view_machine c A outer s H E).env.cells (C8.fnScope st_followV).names []) c1)) := s30 _ _ (ex3 f1 _ ef1 fun ps => fnO_ne ps)
    have c31 : H3' c1 = some (CodeO c1 q_followV) := s30 _ _ (ex3 c1 _ ec1 fun ps => codeO_ne ps)
    have f32 : H3' f2 = some (FnO f2 (nf_is_endV (cloFrom (xV P w K mg base T.a_view_machine c A outer s H E).env.cells (C8.fnScope st_is_endV).names []) c2)) := s30 _ _ ef2
    have c32 : H3' c2 = some (CodeO c2 q_is_endV) := s30 _ _ ec2
    have nin : ∀ b o, H3' b = some o → ¬ inC (xV P w K mg base T.a_view_machine c A outer s H E).env.cells b := fun b o eb z => by
      have := hnone b z
      rw [eb] at this
      cases this
    have up : ∀ b o, H3' b = some o → H4 b = some o := fun b o eb => by
      rw [hout b (nin b o eb)]
      exact eb
    have k4 : H4 D = some (.dK kvs) := up _ _ (s30 _ _ ek3)
    have cellE : ∀ b, inC (xV P w K mg base T.a_view_machine c A outer s H E).env.cells b → ∃ o, H4 b = some (CellO b o) := fun b z => by
      obtain ⟨y, hy⟩ := z
      obtain ⟨o, v, z1, _⟩ := CT.all y b hy
      exact ⟨o, z1⟩
    have capF := cap_fV ok
    have capE := cap_eV ok
    have CF : ∀ H' : Hp, Same H4 H' → CellsT H' (cloFrom (xV P w K mg base T.a_view_machine c A outer s H E).env.cells (C8.fnScope st_followV).names []) ["known", "letters", "size"] [some (.ref D), some (.str z), some (.int (n : Int))] := fun H' sm => (CT.same fun b o eb => sm _ _ eb).sub capF rfl fun i y hy => ⟨i, hy, rfl⟩
    have CE : ∀ H' : Hp, Same H4 H' → CellsT H' (cloFrom (xV P w K mg base T.a_view_machine c A outer s H E).env.cells (C8.fnScope st_is_endV).names []) [] [] := fun H' sm => (CT.same fun b o eb => sm _ _ eb).sub capE rfl fun i y hy => by simp at hy
    have ca1 := Callable.of ((ok_followV (P := P) (w := w) (K := K) (mg := mg) (base := base) (f := f1) (c := c1) (cl := cloFrom (xV P w K mg base T.a_view_machine c A outer s H E).env.cells (C8.fnScope st_followV).names []) T).mono (show 2 ≤ 4 by decide))
    have ca2 := Callable.of ((ok_is_endV (P := P) (w := w) (K := K) (mg := mg) (base := base) (f := f2) (c := c2) (cl := cloFrom (xV P w K mg base T.a_view_machine c A outer s H E).env.cells (C8.fnScope st_is_endV).names [])).mono (show 1 ≤ 4 by decide))
    obtain ⟨i0, e0⟩ := uV_idx (stW_mem (n := n) (W := ws) (Wd := Wd) (w := []))
    have big0 : (allSt Wd).length ≤ 2 ^ (shortL z.cps.toList n).length + 1 := by
      rw [allSt_len]
      exact Nat.succ_le_succ (Nat.pow_le_pow_right (by decide) (by omega))
    have big : (allSt Wd).length ≤ 1000000 := by
      rw [allSt_len]
      have : 2 ^ Wd.length ≤ 2 ^ 15 := Nat.pow_le_pow_right (by decide) (by omega)
      have e : 2 ^ 15 = 32768 := rfl
      omega
    have zl : z.cps.toList.length = z.length := Array.length_toList
    have rok : ∀ s', s' < (allSt Wd).length → (rV n ws Wd z.cps.toList s').length = z.length ∧ ∀ t ∈ rV n ws Wd z.cps.toList s', t < (allSt Wd).length := fun s' _ => ⟨by unfold rV; rw [List.length_map, zl], fun t ht => by
      obtain ⟨d, _, rfl⟩ := List.mem_map.mp ht
      exact (uV_idx (nxt_mem _)).1⟩
    refine ⟨z, v0, f1, f2, _, _, _, _, fun s' => keyS (uV Wd s'), (allSt Wd).idxOf (stW n ws Wd []), (allSt Wd).length, z.length, rV n ws Wd z.cps.toList, fun s' => (uV Wd s').isSome, rfl, ?_, up _ _ f31, ca1, up _ _ f32, ca2, i0, big, hz.one, hz.five, fun s' _ => keyS_depth _, fun s' t hs ht e => uV_inj S.nd hs ht (keyS_inj e), rok, fun s' v H' Q' hs' sm hv hQ => ?_, fun s' v H' Q' hs' sm hv hQ => ?_, fun H5 p M ks tbl hl5 sm5 mm ez bo => ⟨fun b y => ?_, ?_⟩⟩
    · show NV H4 (keyS (uV Wd ((allSt Wd).idxOf (stW n ws Wd [])))) v0
      rw [e0]
      exact (sv0.mono fun b xs eb => up _ _ eb).nv
    · -- follow
      have nC : ∀ b o, H' b = some o → (∀ x, o ≠ CellO b x) → hide (inC (cloFrom (xV P w K mg base T.a_view_machine c A outer s H E).env.cells (C8.fnScope st_followV).names [])) H' b = some o := fun b o eb n => by
        rw [hide_out (fun z => by
          obtain ⟨y, hy⟩ := z
          obtain ⟨o', v, z1, _⟩ := (CF H' sm).all y b hy
          rw [eb] at z1
          exact n _ (Option.some.inj z1))]
        exact eb
      refine ⟨[some (.ref D), some (.str z), some (.int (n : Int))], sm _ _ (up _ _ f31), sm _ _ (up _ _ c31), CF H' sm, D, kvs, z, n, ws, v, uV Wd s', rfl, rfl, nC _ _ (sm _ _ k4) (by intro x z; cases z), kn, hz.five, (SV.of hv).mono (fun b xs eb => nC _ _ eb (by intro x z; cases z)), fun ys ey => ?_, fun H6 b us sm6 nb eb lu cu h6n => ?_⟩
      · have sb := allSt_some (ey ▸ uV_mem hs')
        refine ⟨Nat.le_trans sb.length_le (by omega), fun y hy => ?_⟩
        have := ((S.mem y).mp (sb.subset hy)).1
        omega
      have out6 : ∀ (x : Addr) (o : HO), H6 x = some o → ¬ inC (cloFrom (xV P w K mg base T.a_view_machine c A outer s H E).env.cells (C8.fnScope st_followV).names []) x := fun x o ex z => by
        rw [h6n x z] at ex
        cases ex
      refine hQ _ b us (fun x o ex => ?_) ?_ ?_ (nvs_of (by rw [lu, List.length_map]; exact (rok s' hs').1.symm) fun j k v' hk hv' => ?_)
      · by_cases z : inC (cloFrom (xV P w K mg base T.a_view_machine c A outer s H E).env.cells (C8.fnScope st_followV).names []) x
        · exact (back_in z).trans ex
        · exact (back_out z).trans (sm6 _ _ ((hide_out z).trans ex))
      · exact (hide_out (out6 b _ eb)).symm.trans nb
      · exact (back_out (out6 b _ eb)).trans eb
      · have hj := (List.getElem?_eq_some_iff.mp hv').1
        have hj2 : j < z.cps.toList.length := by omega
        have hc := List.getElem?_eq_getElem hj2
        obtain ⟨st', q1, q2⟩ := cu j _ v' hc hv'
        have e := step_nxt S (uV_mem hs') (List.getElem_mem hj2) q2
        unfold rV at hk
        rw [List.getElem?_map, List.getElem?_map, hc] at hk
        have hk : keyS (uV Wd ((allSt Wd).idxOf (nxt n ws Wd (sg z.cps.toList[j]) (uV Wd s')))) = k := Option.some.inj hk
        rw [(uV_idx (nxt_mem _)).2, ← e] at hk
        rw [← hk]
        exact (q1.mono fun b' xs eb' => (back_out (out6 b' _ eb')).trans eb').nv
    · -- is_end
      have nC : ∀ b o, H' b = some o → (∀ x, o ≠ CellO b x) → hide (inC (cloFrom (xV P w K mg base T.a_view_machine c A outer s H E).env.cells (C8.fnScope st_is_endV).names [])) H' b = some o := fun b o eb n => by
        rw [hide_out (fun z => by
          obtain ⟨y, hy⟩ := z
          obtain ⟨o', v, z1, _⟩ := (CE H' sm).all y b hy
          rw [eb] at z1
          exact n _ (Option.some.inj z1))]
        exact eb
      refine ⟨[], sm _ _ (up _ _ f32), sm _ _ (up _ _ c32), CE H' sm, v, uV Wd s', rfl, rfl, (SV.of hv).mono (fun b xs eb => nC _ _ eb (by intro x z; cases z)), ?_⟩
      intro h6n
      refine hQ _ fun x o ex => ?_
      by_cases z : inC (cloFrom (xV P w K mg base T.a_view_machine c A outer s H E).env.cells (C8.fnScope st_is_endV).names []) x
      · exact (back_in z).trans ex
      · exact (back_out z).trans ((hide_out z).trans ex)
    · obtain ⟨o, z1⟩ := cellE b y
      rw [sm5 _ _ z1, z1]
    · have keep : ∀ b o, H3' b = some o → hide (inC (xV P w K mg base T.a_view_machine c A outer s H E).env.cells) H5 b = some o := fun b o eb => by
        rw [hide_out (nin b o eb)]
        exact sm5 _ _ (up b o eb)
      have tk : TabOk ks.length z.length tbl := BuiltOk.tab bo.wi bo.len bo.full hz.one hz.five big
      refine q _ p M (fun b o eb n => keep b o (s30 _ _ (s13 b o (sm1 _ _ eb) n))) ((tb3.ext s30).ext fun b o eb => keep b o eb) (mm.mono fun b xs eb => ?_) (bo.mach tk (by rw [ez]; exact hz) (by rw [ez])) ez (Nat.le_trans bo.few big0) (bo.canon tk) fun cs hcs => ?_
      · rw [hide_out (fun z => by
          obtain ⟨o, z1⟩ := cellE b z
          rw [sm5 _ _ z1] at eb
          cases eb)]
        exact eb
      · have hw := cols_lt hcs
        have := bo.words tk (cs.map fun c => z.cps.toList.idxOf c) hw
        rw [has_runs, ez, decide_eq_true_iff, this]
        have e := rV_run S (cs.map fun c => z.cps.toList.idxOf c) [] _ e0 i0 (fun _ h => nomatch h) (fun i hi => by rw [zl]; exact hw i hi)
        rw [e, stW_some, List.nil_append, List.map_map]
        have : cs.map ((fun i => z.cps.toList.getD i 0) ∘ fun c => z.cps.toList.idxOf c) = cs := by
          conv => rhs; rw [← List.map_id cs]
          refine List.map_congr_left fun d hd => ?_
          have hl := List.idxOf_lt_length_iff.mpr (hcs d hd)
          show z.cps.toList.getD (z.cps.toList.idxOf d) 0 = d
          rw [List.getD_eq_getElem?_getD, List.getElem?_eq_getElem hl, List.getElem_idxOf]
          rfl
        rw [this]
end
end LH

namespace LH
open PySem PySem.Spec PyProof.Rows L2 NdefX LamX
/-! ### rows of groups of one number each -/
def GrpAt1 (H : Hp) (ra : Addr) (row : List Nat) : Prop := ∃ gas : List Addr, H ra = some (.lst (vr gas)) ∧ gas.length = row.length ∧ ∀ (c : Nat) (ga : Addr) (v : Nat), gas[c]? = some ga → row[c]? = some v → H ga = some (.lst (vi [v]))
def R3At (H : Hp) (ta : Addr) (ras : List Addr) (tbl : List (List Nat)) : Prop := H ta = some (.lst (vr ras)) ∧ ras.length = tbl.length ∧ ∀ (i : Nat) (ra : Addr) (row : List Nat), ras[i]? = some ra → tbl[i]? = some row → GrpAt1 H ra row
theorem GrpAt1.same {H H' : Hp} {ra : Addr} {row : List Nat} (s : Same H H') (h : GrpAt1 H ra row) : GrpAt1 H' ra row := by
  obtain ⟨gas, a, b, c⟩ := h
  exact ⟨gas, s _ _ a, b, fun i ga v x y => s _ _ (c i ga v x y)⟩
theorem R3At.same {H H' : Hp} {ta : Addr} {ras : List Addr} {tbl : List (List Nat)} (s : Same H H') (h : R3At H ta ras tbl) : R3At H' ta ras tbl := ⟨s _ _ h.1, h.2.1, fun i ra row x y => (h.2.2 i ra row x y).same s⟩
/-- as GrpAt1, apart from some addresses -/
def GrpS (X : Addr → Prop) (H : Hp) (ra : Addr) (row : List Nat) : Prop := ∃ gas : List Addr, ¬ X ra ∧ (∀ ga ∈ gas, ¬ X ga) ∧ H ra = some (.lst (vr gas)) ∧ gas.length = row.length ∧ ∀ (c : Nat) (ga : Addr) (v : Nat), gas[c]? = some ga → row[c]? = some v → H ga = some (.lst (vi [v]))
theorem GrpS.mono {X : Addr → Prop} {H H' : Hp} {ra : Addr} {row : List Nat} (s : ∀ b o, ¬ X b → H b = some o → H' b = some o) (h : GrpS X H ra row) : GrpS X H' ra row := by
  obtain ⟨gas, x1, x2, a, b, c⟩ := h
  exact ⟨gas, x1, x2, s _ _ x1 a, b, fun i ga v x y => s _ _ (x2 ga (List.mem_of_getElem? x)) (c i ga v x y)⟩
theorem GrpS.plain {X : Addr → Prop} {H : Hp} {ra : Addr} {row : List Nat} (h : GrpS X H ra row) : GrpAt1 H ra row := by
  obtain ⟨gas, x1, x2, a, b, c⟩ := h
  exact ⟨gas, a, b, c⟩
def RowsS (X : Addr → Prop) (H : Hp) (ras : List Addr) (tbl : List (List Nat)) : Prop := ras.length = tbl.length ∧ ∀ (i : Nat) (ra : Addr) (row : List Nat), ras[i]? = some ra → tbl[i]? = some row → GrpS X H ra row
theorem RowsS.mono {X : Addr → Prop} {H H' : Hp} {ras : List Addr} {tbl : List (List Nat)} (s : ∀ b o, ¬ X b → H b = some o → H' b = some o) (h : RowsS X H ras tbl) : RowsS X H' ras tbl := ⟨h.1, fun i ra row x y => (h.2 i ra row x y).mono s⟩
theorem RowsS.snoc {X : Addr → Prop} {H : Hp} {ras : List Addr} {tbl : List (List Nat)} {ra : Addr} {row : List Nat} (h : RowsS X H ras tbl) (g : GrpS X H ra row) : RowsS X H (ras ++ [ra]) (tbl ++ [row]) := by
  refine ⟨by rw [List.length_append, List.length_append, h.1]; rfl, fun i b r x y => ?_⟩
  by_cases hi : i < ras.length
  · rw [List.getElem?_append_left hi] at x
    rw [List.getElem?_append_left (by rw [← h.1]; exact hi)] at y
    exact h.2 i b r x y
  · rw [List.getElem?_append_right (by omega)] at x
    rw [List.getElem?_append_right (by rw [← h.1]; omega), ← h.1] at y
    have e : i - ras.length = 0 := by
      cases q : i - ras.length with
      | zero => rfl
      | succ k =>
        rw [q] at x
        simp at x
    rw [e] at x y
    cases x
    cases y
    exact g
section
variable {P : Program} {w : World} {K : PySem.W.Frag} {mg : Str → Option Value} {base : Heap}
/-- what moves(state) tells: a new list of new lists, each of one state -/
def MovesOk (H : Hp) (n0 : Nat) (R : Nat → List Nat) (spf : Sp) : Prop := ∀ (s : Nat) (H' : Hp) (Q' : VK), s < n0 → Same H H' → (∀ H'' b (gas : List Addr), Same H' H'' → H' b = none → H'' b = some (.lst (vr gas)) → gas.length = (R s).length → (∀ ga ∈ gas, H' ga = none) → (∀ (c : Nat) (ga : Addr) (t : Nat), gas[c]? = some ga → (R s)[c]? = some t → H'' ga = some (.lst (vi [t]))) → Q' (.ref b) H'') → spf [.int (s : Int)] H' Q' E0
def sp_explored (P : Program) (w : World) (K : PySem.W.Frag) (mg : Str → Option Value) (base : Heap) : Sp := fun vs H Q _ => ∃ (st f : Addr) (F : NF) (spf : Sp) (s0 n0 L : Nat) (R : Nat → List Nat), vs = [.ref st, .ref f] ∧ H st = some (.lst (vi [s0])) ∧ H f = some (FnO f F) ∧ Callable P w K mg base 4 f spf ∧ s0 < n0 ∧ n0 ≤ 1000000 ∧ L ≤ 5 ∧ (∀ s, s < n0 → (R s).length = L ∧ ∀ t ∈ R s, t < n0) ∧ MovesOk H n0 R spf ∧
  ∀ H' p ka ta ras ks tbl, Same H H' → H' p = some (.tup [.ref ka, .ref ta]) → H' ka = some (.lst (vi ks)) → R3At H' ta ras tbl → WI n0 L R s0 ks tbl → tbl.length = ks.length → (∀ r ∈ tbl, r.length = L) → Q (.ref p) H'
theorem ok_explored (T : TX K mg) : FnOk P w K mg base CX0 5 T.a_explored T.fd_explored ["starts", "moves"] (sp_explored P w K mg base) := by
  refine T.F_explored.ok sc_explored (fun vs H Q E h => ?_) (fun cdv A outer s H vs Q E hr h => ?_)
  · obtain ⟨st, f, F, spf, s0, n0, L, R, rfl, _⟩ := h
    rfl
  · obtain ⟨st, f, F, spf, s0, n0, L, R, rfl, est, hf, ca, h0, hbig, hL, hR, hsp, q⟩ := h
    refine ⟨_, (pss_cons (ps_set (i := 2) sc_explored.nd rfl (Or.inl rfl) (pe_callTy (call_listK K rfl) (by rfl) T.m_list (by decide +kernel) (pa_cons (pv 0) pa_nil)))
      (pss_cons (ps_set (i := 3) sc_explored.nd rfl (Or.inr rfl) (pe_dc (own := [("number", 9), ("key", 8)]) (tt := tYes) (by rfl) sc_explored.nd (pi_enumK K rfl (by rfl) T.m_enumerate (pa_cons (pv 0) pa_nil)) (blkOk_by (own := [("number", 9), ("key", 8)]) (N := N_explored) (by kernel_rfl)) (fun _ _ _ _ _ => (pg_tupK (n := 2) K rfl (by rfl) (pgs_cons (pg_name (i := 9) sc_explored.nd rfl (Or.inl rfl)) (pgs_cons (pg_name (i := 8) sc_explored.nd rfl (Or.inl rfl)) pgs_nil)))) (fun _ _ _ _ _ => pts_nil) (fun _ _ _ _ _ => (pv 8)) (fun _ _ _ _ _ => (pv 9))))
      (pss_cons (ps_set (i := 4) sc_explored.nd rfl (Or.inl rfl) (pe_lst pa_nil))
      (pss_cons (ps_while PassesOwn.never (pt_cmpR op_lt (pe_callB (call_lenK K rfl) (by rfl) T.m_len (by decide +kernel) (pa_cons (pv 4) pa_nil)) (pe_callB (call_lenK K rfl) (by rfl) T.m_len (by decide +kernel) (pa_cons (pv 2) pa_nil)) (nomark _))
        (pss_cons (ps_set (i := 5) sc_explored.nd rfl (Or.inl rfl) (pe_lst pa_nil))
          (pss_cons (ps_set (i := 6) sc_explored.nd rfl (Or.inl rfl) (pe_callV (k := 4) (i := 1) P w K mg base rfl rfl rfl rfl rfl (hr.mono (by decide)) rfl (by first | exact Or.inl rfl | exact Or.inr (Or.inl rfl) | exact Or.inr (Or.inr rfl)) (pa_cons (pe_ix (ix_listK K rfl) (pv 2) (pe_callB (call_lenK K rfl) (by rfl) T.m_len (by decide +kernel) (pa_cons (pv 4) pa_nil)) (fun _ _ => rfl)) pa_nil)))
          (pss_cons (ps_for PassesOwn.never rfl (pi_listK K rfl (pv 6)) (pg_name (i := 7) sc_explored.nd rfl (Or.inl rfl))
            (pss_cons (ps_for PassesOwn.never rfl (pi_listK K rfl (pv 7)) (pg_name (i := 8) sc_explored.nd rfl (Or.inl rfl))
                (pss_one (ps_if (pt_cmp (pc_dnotin (hu_of hr) (pv 8) (pv 3)))
                    (pss_cons (ps_dput (hu_of hr) (pv 3) (pv 8) (pe_callB (call_lenK K rfl) (by rfl) T.m_len (by decide +kernel) (pa_cons (pv 2) pa_nil)) rfl)
                      (pss_one (ps_expr (pe_bmK K rfl PySem.F.plainAttrs_list PySem.F.slot_list_append PySem.F.type_list_append mt_append (pv 2) (pa_cons (pv 8) pa_nil)))))
                    pss_nil)))
              (pss_one (ps_expr (pe_bmK K rfl PySem.F.plainAttrs_list PySem.F.slot_list_append PySem.F.type_list_append mt_append (pv 5) (pa_cons (pe_lc (own := [("key", 8)]) (g := gName 8) (tt := tYes) (by rfl) sc_explored.nd (pi_listK K rfl (pv 7)) (blkOk_by (own := [("key", 8)]) (N := N_explored) (by kernel_rfl)) (fun _ _ _ _ _ => (pg_name (i := 8) sc_explored.nd rfl (Or.inl rfl))) (fun _ _ _ _ _ => pts_nil) (fun _ _ _ _ _ => (pe_dget (hu_of hr) (pv 3) (pv 8) (fun _ _ => rfl)))) pa_nil))))))
          (pss_one (ps_expr (pe_bmK K rfl PySem.F.plainAttrs_list PySem.F.slot_list_append PySem.F.type_list_append mt_append (pv 4) (pa_cons (pv 5) pa_nil))))))))
      (pss_one (ps_ret (pe_tup (pa_cons (pv 2) (pa_cons (pv 4) pa_nil))))))))), ?_⟩
    have sl : ∀ m, m ≤ 1000000 → m < sizeLine := fun m hm => Nat.lt_of_le_of_lt hm (by decide)
    -- keys, numbers, rows
    refine ⟨.ref st, rfl, st, _, rfl, .inl (.inl (.inl est)), fun ka nka => ?_⟩
    have s1 := same_new (o := .lst (vi [s0])) nka
    have ek : (upd H ka (.lst (vi [s0]))) ka = some (.lst (vi [s0])) := upd_same
    refine ⟨.ref st, rfl, st, _, rfl, .inl (.inl (s1 _ _ est)), fun nm nnm => ?_⟩
    have s2 := same_new (o := .dK []) nnm
    have d1 : ka ≠ nm := ne_of_none ek nnm
    have fnm : H nm = none := s1.free nnm
    refine dc_it (walk_enum (K := K) (a := st) (xs := vi [s0])) (fun i G => Same H G ∧ G ka = some (.lst (vi [s0])) ∧ G nm = some (.dK (mk ([s0].take i)))) ⟨s1.trans s2, s2 _ _ ek, upd_same⟩ (fun i G _ hW => .inl (.inl (hW.1 _ _ est))) (fun i x G G' hi hW hY => ?_) (fun G hW => ?_)
    · obtain ⟨sG, ekG, en⟩ := hW
      obtain ⟨T1, v1, v2, rfl, nT1, rfl, e1, e2⟩ := hY
      cases e1
      have hi : i < 1 := hi
      obtain rfl : i = 0 := by omega
      have e2 : some (V.int (s0 : Int)) = some v2 := e2
      cases e2
      have sT := same_new (o := .tup [.int ((0 : Nat) : Int), .int (s0 : Int)]) nT1
      refine ⟨T1, [.int ((0 : Nat) : Int), .int (s0 : Int)], rfl, .inl (.inl upd_same), rfl, .int ((0 : Nat) : Int), [.int (s0 : Int)], rfl, .int (s0 : Int), [], rfl, rfl, ?_⟩
      refine ⟨rfl, lcyes ⟨.int (s0 : Int), rfl, .int ((0 : Nat) : Int), rfl, _, Sum.inl (s0 : Int), rfl, sT _ _ en, by show 0 < sizeLine; decide, ?_, ?_, ?_⟩⟩
      · intro b o eb
        rw [upd_ne (ne_of_none eb fnm)]
        exact sT _ _ (sG _ _ eb)
      · rw [upd_ne d1]
        exact sT _ _ ekG
      · rw [upd_same]
        rfl
    obtain ⟨sm0, ek0, en0⟩ := hW
    have en0 : G nm = some (.dK (mk [s0])) := en0
    refine ⟨by show 0 ≤ sizeLine; decide, fun ta nta => ?_⟩
    have d2 : nm ≠ ta := ne_of_none en0 nta
    have d3 : ka ≠ ta := ne_of_none ek0 nta
    have fka : H ka = none := nka
    have fta : H ta = none := sm0.free nta
    -- while
    refine ⟨fun m σ H' => ∃ (ks : List Nat) (tbl : List (List Nat)) (ras : List Addr) (y5 y6 y7 y8 : Option V), m + tbl.length = n0 + 1 ∧ σ = [some (.ref st), some (.ref f), some (.ref ka), some (.ref nm), some (.ref ta), y5, y6, y7, y8, none] ∧ Same H H' ∧ H' nm = some (.dK (mk ks)) ∧ H' ka = some (.lst (vi ks)) ∧ H' ta = some (.lst (vr ras)) ∧ RowsS (fun b => b = ta ∨ b = ka ∨ b = nm) H' ras tbl ∧ WI n0 L R s0 ks tbl ∧ (∀ r ∈ tbl, r.length = L),
      ⟨n0 + 1, [s0], [], [], none, none, none, none, rfl, rfl, sm0.trans (same_new nta), same_new nta _ _ en0, same_new nta _ _ ek0, upd_same, ⟨rfl, fun i b w x => by simp at x⟩, WI.start h0, fun _ h => nomatch h⟩, fun m σ H1 hW => ?_⟩
    obtain ⟨ks, tbl, ras, y5, y6, y7, y8, hm, rfl, sm1, en, ek1, et1, rw1, wi, full⟩ := hW
    have hmany := wi.many
    have hrl : ras.length = tbl.length := rw1.1
    refine ⟨.ref ta, rfl, ta, _, rfl, .inl (.inl (.inl et1)), .ref ka, rfl, ka, _, rfl, .inl (.inl (.inl ek1)), _, _, rfl, rfl, _, rfl, ite2 (fun z => ?_) (fun z => ?_)⟩
    · have hlt : tbl.length < ks.length := by
        have := of_decide_eq_true z
        rw [List.length_map, List.length_map, hrl] at this
        omega
      refine ⟨fun σ' H' => ∃ (ks : List Nat) (row : List Nat) (ras' : List Addr) (y5 y6 y7 y8 : Option V), σ' = [some (.ref st), some (.ref f), some (.ref ka), some (.ref nm), some (.ref ta), y5, y6, y7, y8, none] ∧ Same H H' ∧ H' nm = some (.dK (mk ks)) ∧ H' ka = some (.lst (vi ks)) ∧ H' ta = some (.lst (vr ras')) ∧ RowsS (fun b => b = ta ∨ b = ka ∨ b = nm) H' ras' (tbl ++ [row]) ∧ WI n0 L R s0 ks (tbl ++ [row]) ∧ row.length = L, fun σ' H' hN => ?_, ?_⟩
      · obtain ⟨ks', row, ras', y5, y6, y7, y8, r1, r2, r3, r4, r5, r6, r7, r8⟩ := hN
        have := r7.le
        have hm' := r7.many
        rw [List.length_append] at this
        have this : tbl.length + 1 ≤ ks'.length := this
        refine ⟨m - 1, by omega, ks', tbl ++ [row], ras', y5, y6, y7, y8, ?_, r1, r2, r3, r4, r5, r6, r7, mem_snoc full r8⟩
        rw [List.length_append]
        show m - 1 + (tbl.length + 1) = n0 + 1
        omega
      -- row = []
      refine ⟨by show 0 ≤ sizeLine; decide, fun ra nra => ?_⟩
      have s12 : Same H1 (upd H1 ra (.lst [])) := same_new nra
      have sm2 : Same H (upd H1 ra (.lst [])) := sm1.trans s12
      have era : (upd H1 ra (.lst [])) ra = some (.lst (vr [])) := upd_same
      have fra : H ra = none := sm1.free nra
      have ra1 : nm ≠ ra := ne_of_none en nra
      have ra2 : ka ≠ ra := ne_of_none ek1 nra
      have ra3 : ta ≠ ra := ne_of_none et1 nra
      have en2 := s12 _ _ en
      have ek2 := s12 _ _ ek1
      have et2 := s12 _ _ et1
      generalize upd H1 ra (.lst []) = H2 at sm2 s12 era en2 ek2 et2
      have hks : ks[tbl.length]? = some ks[tbl.length] := List.getElem?_eq_getElem hlt
      generalize ks[tbl.length] = sx at hks
      have hsx : sx < n0 := wi.lt sx (List.mem_of_getElem? hks)
      obtain ⟨hRl, hRt⟩ := hR sx hsx
      have hvk : (vi ks)[ras.length]? = some (.int (sx : Int)) := by
        rw [List.getElem?_map, hrl, hks]
        rfl
      -- behind = moves(keys[len(rows)])
      refine ⟨f, F, spf, rfl, sm2 _ _ hf, ca, .ref ka, rfl, .ref ta, rfl, ta, _, rfl, .inl (.inl (.inl et2)), ka, _, _, .int (sx : Int), rfl, rfl, .inl (.inl ek2), ?_, sm2 _ _ hf, hsp sx H2 _ hsx sm2 fun H3 pb bgs s3 npb epb lbg nbg cbg => ?_⟩
      · rw [List.length_map]
        exact atI_nat hvk
      have wi0 := wi.open_ hlt
      have hbl : bgs.length = L := by rw [lbg, hRl]
      have pb1 : nm ≠ pb := ne_of_none en2 npb
      have pb2 : ka ≠ pb := ne_of_none ek2 npb
      have pb3 : ra ≠ pb := ne_of_none era npb
      -- for group in behind
      refine ⟨.ref pb, rfl, pb, rfl, ⟨_, .inl (.inl epb)⟩, ?_⟩
      refine for_it (walk_list (K := K) (a := pb) (xs := vr bgs)) (fun c σ H' => (∃ ks cur gas, (∀ b o, b ≠ nm → b ≠ ka → b ≠ ra → H3 b = some o → H' b = some o) ∧ Same H H' ∧ H' nm = some (.dK (mk ks)) ∧ H' ka = some (.lst (vi ks)) ∧ H' ra = some (.lst (vr gas)) ∧ gas.length = c ∧ cur.length = c ∧ (∀ (i : Nat) (ga : Addr) (v : Nat), gas[i]? = some ga → cur[i]? = some v → H' ga = some (.lst (vi [v]))) ∧ (∀ ga ∈ gas, ga ≠ ra ∧ ga ≠ ta ∧ ga ≠ ka ∧ ga ≠ nm) ∧ ks[tbl.length]? = some sx ∧ WI n0 L R s0 ks (tbl ++ [cur])) ∧ ∃ y7 y8, σ = [some (.ref st), some (.ref f), some (.ref ka), some (.ref nm), some (.ref ta), some (.ref ra), some (.ref pb), y7, y8, none]) ⟨⟨ks, [], [], fun b o _ _ _ e => e, sm2.trans s3, s3 _ _ en2, s3 _ _ ek2, s3 _ _ era, rfl, rfl, (fun i ga v x => by simp at x), (fun _ h => nomatch h), hks, wi0⟩, y7, y8, rfl⟩ (fun c σ H' _ hW => ?_) (fun c x σ H4 H4' hc hW hY => ?_) (fun σ H4 hW => ?_)
      · obtain ⟨⟨_, _, _, fr, _⟩, _⟩ := hW
        exact .inl (.inl (fr _ _ pb1.symm pb2.symm pb3.symm epb))
      · obtain ⟨⟨ks, cur, gas, fr4, sm4, en4, ek4, er4, lg4, lc, cg4, dg4, hk4, wi4⟩, y7, y8, rfl⟩ := hW
        obtain ⟨rfl, hx⟩ := hY
        rw [List.length_map] at hc
        rw [List.getElem?_map, List.getElem?_eq_getElem hc] at hx
        cases hx
        have ht := List.getElem?_eq_getElem (l := R sx) (i := c) (by omega)
        generalize (R sx)[c]'(by omega) = t at ht
        have htn := hRt t (List.mem_of_getElem? ht)
        have hm4 := wi4.many
        have eg := cbg c _ t (List.getElem?_eq_getElem hc) ht
        have ng := nbg _ (List.getElem_mem hc)
        generalize bgs[c] = gb at eg ng
        have g1 : nm ≠ gb := ne_of_none en2 ng
        have g2 : ka ≠ gb := ne_of_none ek2 ng
        have g3 : ra ≠ gb := ne_of_none era ng
        have eg4 := fr4 _ _ g1.symm g2.symm g3.symm eg
        -- for key in group
        refine ⟨.ref gb, rfl, gb, rfl, ⟨_, .inl (.inl eg4)⟩, ?_⟩
        refine for_it (walk_list (K := K) (a := gb) (xs := vi [t])) (fun i σ H' => ∃ ks' y8, (i = 0 → ks' = ks) ∧ (i = 1 → (ks' = ks ∨ (ks' = ks ++ [t] ∧ t ∉ ks)) ∧ t ∈ ks' ∧ ks'.Nodup) ∧ σ = [some (.ref st), some (.ref f), some (.ref ka), some (.ref nm), some (.ref ta), some (.ref ra), some (.ref pb), some (.ref gb), y8, none] ∧ H' nm = some (.dK (mk ks')) ∧ H' ka = some (.lst (vi ks')) ∧ (∀ b, b ≠ nm → b ≠ ka → H' b = H4' b)) ⟨ks, y8, (fun _ => rfl), (fun h => nomatch h), rfl, en4, ek4, fun _ _ _ => rfl⟩ (fun i σ H' _ hW => ?_) (fun i x σ H5 H5' hi hW hY => ?_) (fun σ H5 hW => ?_)
        · obtain ⟨_, _, _, _, _, _, _, z⟩ := hW
          exact .inl (.inl (by rw [z gb g1.symm g2.symm]; exact eg4))
        · obtain ⟨ks', y8, k0, _, rfl, en5, ek5, rest⟩ := hW
          obtain ⟨rfl, hx⟩ := hY
          have hi : i < 1 := hi
          obtain rfl : i = 0 := by omega
          obtain rfl := k0 rfl
          have hx : some (V.int (t : Int)) = some x := hx
          cases hx
          refine ⟨.int (t : Int), rfl, .ref nm, rfl, nm, _, rfl, DGet.k (k := Sum.inl (t : Int)) en5, _, rfl, ?_⟩
          rw [valV_mk]
          by_cases hin : t ∈ ks'
          · rw [if_pos hin]
            refine iteF ?_
            exact ⟨ks', _, (fun h => nomatch h), (fun _ => ⟨.inl rfl, hin, wi4.nd⟩), rfl, en5, ek5, rest⟩
          · rw [if_neg hin]
            refine iteT ?_
            have ep : putK (mk ks') (Sum.inl (t : Int) : Key) (V.int ((vi ks').length : Int)) = mk (ks' ++ [t]) := by
              unfold putK
              rw [valV_any, valV_mk, if_neg hin, if_neg (by decide), mk_snoc, List.length_map]
            refine ⟨.ref ka, rfl, ka, _, rfl, .inl (.inl (.inl ek5)), .ref nm, rfl, .int (t : Int), rfl, nm, _, rfl, DPut.k (k := Sum.inl (t : Int)) en5 (by rw [mk_len]; exact sl _ (by omega)), ?_⟩
            rw [ep]
            have ek6 : (upd H5' nm (.dK (mk (ks' ++ [t])))) ka = some (.lst (vi ks')) := by
              rw [upd_ne d1]
              exact ek5
            refine ⟨.ref ka, rfl, .inl ⟨rfl, _, .inl (.inl ek6)⟩, .int (t : Int), rfl, ka, _, _, rfl, rfl, ek6, by rw [List.length_map]; exact sl _ (by omega), ks' ++ [t], _, (fun h => nomatch h), (fun _ => ⟨.inr ⟨rfl, hin⟩, List.mem_append_right _ (List.mem_singleton.mpr rfl), ?_⟩), rfl, ?_, ?_, ?_⟩
            · refine List.nodup_append.mpr ⟨wi4.nd, by simp, fun x hx y hy e => ?_⟩
              rw [List.mem_singleton.mp hy] at e
              exact hin (e ▸ hx)
            · rw [upd_ne d1.symm, upd_same]
            · rw [upd_same, vi_snoc]
            · intro b h1 h2
              rw [upd_ne h2, upd_ne h1]
              exact rest b h1 h2
        · obtain ⟨ks', y8, _, k1, rfl, en5, ek5, rest⟩ := hW
          obtain ⟨hk', htin, nd'⟩ := k1 rfl
          have er5 : H5 ra = some (.lst (vr gas)) := by
            rw [rest ra ra1.symm ra2.symm]
            exact er4
          have eg5 : H5 gb = some (.lst (vi [t])) := by
            rw [rest gb g1.symm g2.symm]
            exact eg4
          have hvt : ks'[ks'.idxOf t]? = some t := by
            have := List.idxOf_lt_length_iff.mpr htin
            rw [List.getElem?_eq_getElem this, List.getElem_idxOf]
          have hk5 : ks'[tbl.length]? = some sx := by
            rcases hk' with rfl | ⟨rfl, _⟩
            · exact hk4
            · rw [List.getElem?_append_left (List.getElem?_eq_some_iff.mp hk4).1]
              exact hk4
          have sm5 : Same H H5 := fun b o e => by
            rw [rest b (ne_of_none e fnm) (ne_of_none e fka)]
            exact sm4 _ _ e
          -- row.append([numbers[key] for key in group])
          refine ⟨.ref ra, rfl, .inl ⟨rfl, _, .inl (.inl er5)⟩, .ref gb, rfl, gb, rfl, ⟨_, .inl (.inl eg5)⟩, fun D nD => ?_⟩
          have sD := same_new (o := .lst []) nD
          refine lc_it (walk_list (K := K) (a := gb) (xs := vi [t])) (fun i H' => H' = upd H5 D (.lst (vi ([ks'.idxOf t].take i)))) rfl (fun i H' _ hW => by rw [hW]; exact .inl (.inl (same_new nD _ _ eg5))) (fun i x H6 H6' hi hW hY => ?_) (fun H6 hW => ?_)
          · subst hW
            obtain ⟨rfl, hx⟩ := hY
            have hi : i < 1 := hi
            obtain rfl : i = 0 := by omega
            have hx : some (V.int (t : Int)) = some x := hx
            cases hx
            refine ⟨rfl, lcyes ⟨.ref nm, rfl, .int (t : Int), rfl, nm, .int (ks'.idxOf t : Nat), rfl, ?_, _, upd_same, by show 0 < sizeLine; decide, ?_⟩⟩
            · have := DGet.k (k := Sum.inl (t : Int)) (same_new (o := .lst (vi [])) nD _ _ en5)
              rw [valV_mk, if_pos htin] at this
              exact this
            · rw [upd_upd]
              rfl
          · have hW : H6 = upd H5 D (.lst (vi [ks'.idxOf t])) := hW
            subst hW
            have s6 := same_new (o := .lst (vi [ks'.idxOf t])) nD
            have er6 := s6 _ _ er5
            have rD : ra ≠ D := ne_of_none er5 nD
            have dg6 : ∀ ga ∈ gas, ga ≠ D := fun ga hga => by
              obtain ⟨i, hi⟩ := List.mem_iff_getElem?.mp hga
              have hil := (List.getElem?_eq_some_iff.mp hi).1
              have e := cg4 i ga _ hi (List.getElem?_eq_getElem (show i < cur.length by omega))
              obtain ⟨_, _, h3, h4⟩ := dg4 ga hga
              refine ne_of_none (o := .lst (vi [cur[i]'(by omega)])) ?_ nD
              rw [rest ga h4 h3]
              exact e
            refine ⟨ra, _, _, rfl, rfl, er6, by rw [List.length_map]; exact sl _ (by omega), ⟨ks', cur ++ [ks'.idxOf t], gas ++ [D], ?_, ?_, ?_, ?_, ?_, by rw [List.length_append, lg4]; rfl, by rw [List.length_append, lc]; rfl, ?_, mem_snoc dg4 ⟨rD.symm, (ne_of_none (show H5 ta = some (.lst (vr ras)) by rw [rest ta d2.symm d3.symm, fr4 _ _ d2.symm d3.symm ra3 (s3 _ _ et2)]) nD).symm, (ne_of_none ek5 nD).symm, (ne_of_none en5 nD).symm⟩, hk5, ?_⟩, _, _, rfl⟩
            · intro b o h1 h2 h3 e
              rw [upd_ne h3]
              refine s6 _ _ ?_
              rw [rest b h1 h2]
              exact fr4 b o h1 h2 h3 e
            · intro b o e
              rw [upd_ne (ne_of_none e fra)]
              exact s6 _ _ (sm5 _ _ e)
            · rw [upd_ne ra1]
              exact s6 _ _ en5
            · rw [upd_ne ra2]
              exact s6 _ _ ek5
            · rw [upd_same, vr_snoc]
            · intro i ga v x y
              by_cases hi : i < gas.length
              · rw [List.getElem?_append_left hi] at x
                rw [List.getElem?_append_left (by omega)] at y
                have e := cg4 i ga v x y
                obtain ⟨h1, _, h3, h4⟩ := dg4 ga (List.mem_of_getElem? x)
                rw [upd_ne h1]
                refine s6 _ _ ?_
                rw [rest ga h4 h3]
                exact e
              · rw [List.getElem?_append_right (by omega)] at x
                rw [List.getElem?_append_right (by omega)] at y
                have e0 : i - gas.length = 0 := by
                  cases q : i - gas.length with
                  | zero => rfl
                  | succ k =>
                    rw [q] at x
                    simp at x
                rw [show i - cur.length = 0 by omega] at y
                rw [e0] at x
                cases x
                cases y
                rw [upd_ne rD.symm, upd_same]
            · exact wi4.put hk4 (by rw [lc]; exact ht) htn (by omega) hvt hk'
      · obtain ⟨⟨ks, cur, gas, fr4, sm4, en4, ek4, er4, lg4, lc, cg4, dg4, hk4, wi4⟩, y7, y8, rfl⟩ := hW
        rw [List.length_map, hbl] at lc lg4
        have et4 := fr4 _ _ d2.symm d3.symm ra3 (s3 _ _ et2)
        -- rows.append(row)
        have up : ∀ b o, ¬ (b = ta ∨ b = ka ∨ b = nm) → H1 b = some o → (upd H4 ta (.lst (vr (ras ++ [ra])))) b = some o := fun b o hb e => by
          rw [upd_ne fun z => hb (.inl z)]
          exact fr4 b o (fun z => hb (.inr (.inr z))) (fun z => hb (.inr (.inl z))) (ne_of_none e nra) (s3 _ _ (s12 _ _ e))
        refine ⟨.ref ta, rfl, .inl ⟨rfl, _, .inl (.inl et4)⟩, .ref ra, rfl, ta, _, _, rfl, rfl, et4, by rw [List.length_map, hrl]; exact sl _ (by omega), ?_⟩
        rw [vr_snoc]
        refine ⟨ks, cur, ras ++ [ra], _, _, _, _, rfl, ?_, ?_, ?_, upd_same, (rw1.mono up).snoc ?_, wi4, lc⟩
        · intro b o e
          rw [upd_ne (ne_of_none e fta)]
          exact sm4 _ _ e
        · rw [upd_ne d2]
          exact en4
        · rw [upd_ne d3]
          exact ek4
        · refine ⟨gas, fun z => ?_, fun ga hga z => ?_, ?_, by omega, fun i ga v x y => ?_⟩
          · rcases z with z | z | z
            · exact ra3 z.symm
            · exact ra2 z.symm
            · exact ra1 z.symm
          · obtain ⟨_, h2, h3, h4⟩ := dg4 ga hga
            rcases z with z | z | z
            · exact h2 z
            · exact h3 z
            · exact h4 z
          · rw [upd_ne ra3.symm]
            exact er4
          · rw [upd_ne (dg4 ga (List.mem_of_getElem? x)).2.1]
            exact cg4 i ga v x y
    · have hle := wi.le
      have hlen : tbl.length = ks.length := by
        have : ¬ (((vr ras).length : Nat) : Int) < ((vi ks).length : Nat) := fun y => z (decide_eq_true y)
        rw [List.length_map, List.length_map, hrl] at this
        omega
      refine ⟨.ref ka, rfl, .ref ta, rfl, by show 2 ≤ sizeLine; decide, fun p np => ?_⟩
      have sp := same_new (o := .tup [.ref ka, .ref ta]) np
      exact q _ p ka ta ras ks tbl (sm1.trans sp) upd_same (sp _ _ ek1) ⟨sp _ _ et1, hrl, fun i ra row x y => (rw1.2 i ra row x y).plain.same sp⟩ wi hlen full
end
end LH

namespace LH
open PySem PySem.Spec PyProof.Rows L2 NdefX LamX
/-- a stop can be come to -/
inductive Lead (tbl : List (List Nat)) (bs : List Bool) : Nat → Prop
  | stop {j : Nat} : bs[j]? = some true → Lead tbl bs j
  | step {j c k : Nat} : AtT tbl j c k → Lead tbl bs k → Lead tbl bs j
/-- for each number a list of its own -/
def BackAt (H : Hp) (D : Addr) (bas : List Addr) (B : List (List Nat)) : Prop := H D = some (.lst (vr bas)) ∧ bas.length = B.length ∧ bas.Nodup ∧ D ∉ bas ∧ ∀ (k : Nat) (b : Addr) (xs : List Nat), bas[k]? = some b → B[k]? = some xs → H b = some (.lst (vi xs))
theorem BackAt.mono {H H' : Hp} {D : Addr} {bas : List Addr} {B : List (List Nat)} (s : ∀ b o, H b = some o → b = D ∨ b ∈ bas → H' b = some o) (h : BackAt H D bas B) : BackAt H' D bas B :=
  ⟨s _ _ h.1 (.inl rfl), h.2.1, h.2.2.1, h.2.2.2.1, fun k b xs x y => s _ _ (h.2.2.2.2 k b xs x y) (.inr (List.mem_of_getElem? x))⟩
theorem BackAt.put {H : Hp} {D b : Addr} {bas : List Addr} {B : List (List Nat)} {k : Nat} {xs ys : List Nat} (h : BackAt H D bas B) (hb : bas[k]? = some b) (_ : B[k]? = some xs) : BackAt (upd H b (.lst (vi ys))) D bas (B.set k ys) := by
  obtain ⟨h1, h2, h3, h4, h5⟩ := h
  have hbm := List.mem_of_getElem? hb
  have nDb : D ≠ b := fun e => h4 (by rw [e]; exact hbm)
  refine ⟨by rw [upd_ne nDb]; exact h1, by rw [List.length_set]; exact h2, h3, h4, fun i c zs x y => ?_⟩
  have hk := (List.getElem?_eq_some_iff.mp hb).1
  by_cases e : k = i
  · subst e
    rw [List.getElem?_set_self (by omega)] at y
    cases y
    rw [hb] at x
    cases x
    exact upd_same
  · rw [List.getElem?_set_ne e] at y
    have ne : c ≠ b := fun z => e (by
      have h1 := (List.getElem?_eq_some_iff.mp hb)
      have h2 := (List.getElem?_eq_some_iff.mp x)
      exact (List.getElem_inj h3).mp (by rw [h1.2, h2.2, z]))
    rw [upd_ne ne]
    exact h5 i c zs x y
abbrev vb (bs : List Bool) : List V := bs.map V.bl
theorem vb_at {bs : List Bool} {i : Nat} {x : V} (h : (vb bs)[i]? = some x) : ∃ b, bs[i]? = some b ∧ x = .bl b := by
  rw [List.getElem?_map] at h
  obtain ⟨b, e, z⟩ := Option.map_eq_some_iff.mp h
  exact ⟨b, e, z.symm⟩
theorem vb_get {bs : List Bool} {i : Nat} {b : Bool} (h : bs[i]? = some b) : (vb bs)[i]? = some (.bl b) := by
  rw [List.getElem?_map, h]
  rfl
theorem vi_get {ns : List Nat} {i n : Nat} (h : ns[i]? = some n) : (vi ns)[i]? = some (.int (n : Int)) := by
  rw [List.getElem?_map, h]
  rfl
theorem vr_get {as : List Addr} {i : Nat} {a : Addr} (h : as[i]? = some a) : (vr as)[i]? = some (.ref a) := by
  rw [List.getElem?_map, h]
  rfl
theorem vr_at {as : List Addr} {i : Nat} {x : V} (h : (vr as)[i]? = some x) : ∃ a, as[i]? = some a ∧ x = .ref a := by
  rw [List.getElem?_map] at h
  obtain ⟨b, e, z⟩ := Option.map_eq_some_iff.mp h
  exact ⟨b, e, z.symm⟩
theorem vi_dropLast (ns : List Nat) : (vi ns).dropLast = vi ns.dropLast := (List.map_dropLast ..).symm
theorem vb_set (ls : List Bool) (j : Nat) : (vb ls).set j (.bl true) = vb (ls.set j true) := (List.map_set ..).symm
theorem count_put {ls : List Bool} {j : Nat} (h : ls[j]? = some false) : (ls.set j true).count false + 1 = ls.count false := by
  induction ls generalizing j with
  | nil => simp at h
  | cons b r ih =>
    cases j with
    | zero =>
      have : b = false := by simpa using h
      subst this
      simp
    | succ j =>
      have := ih (j := j) (by simpa using h)
      rw [List.set_cons_succ, List.count_cons, List.count_cons]
      omega
theorem set_true {ls : List Bool} {j k : Nat} (h : ls[k]? = some true) : (ls.set j true)[k]? = some true := by
  by_cases e : j = k
  · subst e
    rw [List.getElem?_set_self (List.getElem?_eq_some_iff.mp h).1]
  · rw [List.getElem?_set_ne e]
    exact h
theorem set_back {ls : List Bool} {j k : Nat} (h : (ls.set j true)[k]? = some true) : k = j ∨ ls[k]? = some true := by
  by_cases e : j = k
  · exact .inl e.symm
  · rw [List.getElem?_set_ne e] at h
    exact .inr h
section
variable {P : Program} {w : World} {K : PySem.W.Frag} {mg : Str → Option Value} {base : Heap}
def sp_leading : Sp := fun vs H Q _ => ∃ (ta ea : Addr) (ras : List Addr) (tbl : List (List Nat)) (bs : List Bool), vs = [.ref ta, .ref ea] ∧ R3At H ta ras tbl ∧ H ea = some (.lst (vb bs)) ∧ bs.length = tbl.length ∧ tbl.length ≤ 100000 ∧ (∀ r ∈ tbl, r.length ≤ 5 ∧ ∀ v ∈ r, v < tbl.length) ∧
  ∀ H' p (ls : List Bool), Same H H' → H p = none → H' p = some (.lst (vb ls)) → ls.length = tbl.length → (∀ j, ls[j]? = some true ↔ Lead tbl bs j) → Q (.ref p) H'
theorem ok_leading (T : TX K mg) : FnOk P w K mg base CX0 1 T.a_leading T.fd_leading ["rows", "ended"] sp_leading := by
  refine T.F_leading.ok sc_leading (fun vs H Q E h => ?_) (fun cdv A outer s H vs Q E hr h => ?_)
  · obtain ⟨ta, ea, ras, tbl, bs, rfl, _⟩ := h
    rfl
  · obtain ⟨ta, ea, ras, tbl, bs, rfl, r3, he, hbl, hn, hrow, q⟩ := h
    refine ⟨_, (pss_cons (ps_setLc (i := 2) (own := [("row", 4)]) (g := gName 4) (tt := tYes) (by rfl) sc_leading.nd rfl rfl (sw_true rfl rfl rfl (by decide +kernel)) (pi_listK K rfl (pv 0)) (blkOk_by (own := [("row", 4)]) (N := N_leading) (by kernel_rfl)) (fun _ _ _ _ _ => (pg_name (i := 4) sc_leading.nd rfl (Or.inl rfl))) (fun _ _ _ _ _ => pts_nil) (fun _ _ _ _ _ => (pe_lst pa_nil)))
      (pss_cons (ps_for PassesOwn.never rfl (pi_enumK K rfl (by rfl) T.m_enumerate (pa_cons (pv 0) pa_nil)) (pg_tupK (n := 2) K rfl (by rfl) (pgs_cons (pg_name (i := 3) sc_leading.nd rfl (Or.inl rfl)) (pgs_cons (pg_name (i := 4) sc_leading.nd rfl (Or.inl rfl)) pgs_nil)))
        (pss_one (ps_for PassesOwn.never rfl (pi_listK K rfl (pv 4)) (pg_name (i := 5) sc_leading.nd rfl (Or.inl rfl))
            (pss_one (ps_for PassesOwn.never rfl (pi_listK K rfl (pv 5)) (pg_name (i := 6) sc_leading.nd rfl (Or.inl rfl))
                (pss_one (ps_expr (pe_bmK K rfl PySem.F.plainAttrs_list PySem.F.slot_list_append PySem.F.type_list_append mt_append (pe_ix (ix_listK K rfl) (pv 2) (pv 6) (fun _ _ => rfl)) (pa_cons (pv 3) pa_nil)))))))))
      (pss_cons (ps_set (i := 7) sc_leading.nd rfl (Or.inl rfl) (pe_callTy (call_listK K rfl) (by rfl) T.m_list (by decide +kernel) (pa_cons (pv 1) pa_nil)))
      (pss_cons (ps_setLc (i := 8) (own := [("number", 3), ("stop", 9)]) (by rfl) sc_leading.nd rfl rfl (sw_true rfl rfl rfl (by decide +kernel)) (pi_enumK K rfl (by rfl) T.m_enumerate (pa_cons (pv 1) pa_nil)) (blkOk_by (own := [("number", 3), ("stop", 9)]) (N := N_leading) (by kernel_rfl)) (fun _ _ _ _ _ => (pg_tupK (n := 2) K rfl (by rfl) (pgs_cons (pg_name (i := 3) sc_leading.nd rfl (Or.inl rfl)) (pgs_cons (pg_name (i := 9) sc_leading.nd rfl (by first | exact Or.inl rfl | exact Or.inr rfl)) pgs_nil)))) (fun _ _ _ _ _ => (pts_one (pt_val (pv 9)))) (fun _ _ _ _ _ => (pv 3)))
      (pss_cons (ps_while PassesOwn.never (pt_cmpR op_gt (pe_callB (call_lenK K rfl) (by rfl) T.m_len (by decide +kernel) (pa_cons (pv 8) pa_nil)) pe_int (nomark _))
        (pss_cons (ps_set (i := 6) sc_leading.nd rfl (Or.inl rfl) (pe_bm0K K rfl PySem.F.plainAttrs_list PySem.F.slot_list_pop PySem.F.type_list_pop mt_pop (pv 8)))
          (pss_one (ps_for PassesOwn.never rfl (pi_listK K rfl (pe_ix (ix_listK K rfl) (pv 2) (pv 6) (fun _ _ => rfl))) (pg_name (i := 3) sc_leading.nd rfl (Or.inl rfl))
            (pss_one (ps_if (pt_not (pt_val (pe_ix (ix_listK K rfl) (pv 7) (pv 3) (fun _ _ => rfl))))
                (pss_cons (ps_asg pe_bl (pg_sub (pv 7) (pv 3) set_list))
                  (pss_one (ps_expr (pe_bmK K rfl PySem.F.plainAttrs_list PySem.F.slot_list_append PySem.F.type_list_append mt_append (pv 8) (pa_cons (pv 3) pa_nil)))))
                pss_nil))))))
      (pss_one (ps_ret (pv 7)))))))), ?_⟩
    have sl : ∀ m, m ≤ 1000000 → m < sizeLine := fun m hm => Nat.lt_of_le_of_lt hm (by decide)
    have hrl : ras.length = tbl.length := r3.2.1
    -- back
    refine ⟨.ref ta, rfl, ta, rfl, ⟨_, .inl (.inl r3.1)⟩, fun D nD => ?_⟩
    refine lc_it (walk_list (K := K) (a := ta) (xs := vr ras)) (fun i G => Same H G ∧ ∃ bas : List Addr, G D = some (.lst (vr bas)) ∧ bas.length = i ∧ bas.Nodup ∧ ∀ b ∈ bas, H b = none ∧ b ≠ D ∧ G b = some (.lst (vi []))) ⟨same_new nD, [], upd_same, rfl, List.nodup_nil, fun _ h => nomatch h⟩ (fun i G _ hW => .inl (.inl (hW.1 _ _ r3.1))) (fun i x G G' hi hW hY => ?_) (fun G hW => ?_)
    · obtain ⟨sG, bas, eD, lb, nb, fb⟩ := hW
      obtain ⟨rfl, _⟩ := hY
      rw [List.length_map] at hi
      refine ⟨rfl, lcyes ⟨by show 0 ≤ sizeLine; decide, fun p np => ?_⟩⟩
      have pD : D ≠ p := ne_of_none eD np
      have sp := same_new (o := .lst []) np
      have fp : H p = none := sG.free np
      refine ⟨vr bas, sp _ _ eD, by rw [List.length_map]; exact sl _ (by omega), ?_, bas ++ [p], by rw [upd_same, vr_snoc], by rw [List.length_append, lb]; rfl, ?_, fun b hb => ?_⟩
      · intro b o e
        rw [upd_ne (ne_of_none e nD)]
        exact sp _ _ (sG _ _ e)
      · refine List.nodup_append.mpr ⟨nb, by simp, fun a ha c hc e => ?_⟩
        rw [List.mem_singleton.mp hc] at e
        exact ne_of_none (fb a ha).2.2 np e
      · rcases List.mem_append.mp hb with h | h
        · obtain ⟨a1, a2, a3⟩ := fb b h
          exact ⟨a1, a2, by rw [upd_ne a2]; exact sp _ _ a3⟩
        · rw [List.mem_singleton.mp h]
          exact ⟨fp, pD.symm, by rw [upd_ne pD.symm, upd_same]; rfl⟩
    obtain ⟨sm1, bas, eD1, lb, nb, fb⟩ := hW
    rw [List.length_map, hrl] at lb
    have DB : D ∉ bas := fun h => (fb D h).2.1 rfl
    have fD : H D = none := nD
    have up : ∀ {G : Hp} {b : Addr} {o : HO}, b ∈ bas → Same H G → Same H (upd G b o) := fun hb sG c x e => by
      rw [upd_ne (ne_of_none e (fb _ hb).1)]
      exact sG _ _ e
    -- for number, row in enumerate(rows)
    refine ⟨.ref ta, rfl, ta, _, rfl, .inl (.inl (sm1 _ _ r3.1)), ?_⟩
    refine for_it (walk_enum (K := K) (a := ta) (xs := vr ras)) (fun i σ G => Same H G ∧ (∃ B : List (List Nat), BackAt G D bas B ∧ (∀ xs ∈ B, xs.length ≤ 5 * i) ∧ ∀ (k j : Nat) (xs : List Nat), B[k]? = some xs → (j ∈ xs ↔ j < i ∧ ∃ c, AtT tbl j c k)) ∧ ∃ y3 y4 y5 y6, σ = [some (.ref ta), some (.ref ea), some (.ref D), y3, y4, y5, y6, none, none, none]) ⟨sm1, ⟨List.replicate tbl.length [], ⟨eD1, by rw [List.length_replicate, lb], nb, DB, fun k b xs x y => ?_⟩, fun xs h => by rw [(List.mem_replicate.mp h).2]; exact Nat.zero_le _, fun k j xs y => ?_⟩, none, none, none, none, rfl⟩ (fun i σ G _ hW => .inl (.inl (hW.1 _ _ r3.1))) (fun i x σ G G' hi hW hY => ?_) (fun σ G2 hW => ?_)
    · rw [(List.mem_replicate.mp (List.mem_of_getElem? y)).2]
      exact (fb b (List.mem_of_getElem? x)).2.2
    · rw [(List.mem_replicate.mp (List.mem_of_getElem? y)).2]
      exact ⟨fun h => (nomatch h), fun h => absurd h.1 (Nat.not_lt_zero _)⟩
    · obtain ⟨sG, ⟨B, bk, lB, mB⟩, y3, y4, y5, y6, rfl⟩ := hW
      obtain ⟨T1, v1, v2, rfl, nT1, rfl, e1, e2⟩ := hY
      cases e1
      rw [List.length_map] at hi
      obtain ⟨ra, hra, rfl⟩ := vr_at e2
      have hrow_ := List.getElem?_eq_getElem (l := tbl) (i := i) (by omega)
      obtain ⟨hr5, hrv⟩ := hrow _ (List.getElem_mem (l := tbl) (n := i) (by omega))
      generalize tbl[i]'(by omega) = row at hrow_ hr5 hrv
      have g3 := r3.2.2 i ra row hra hrow_
      obtain ⟨gas, ega, lga, cga⟩ := g3
      refine ⟨T1, [.int (i : Int), .ref ra], rfl, .inl (.inl upd_same), rfl, .int (i : Int), [.ref ra], rfl, .ref ra, [], rfl, rfl, ?_⟩
      have sT := same_new (o := .tup [.int (i : Int), .ref ra]) nT1
      have sG1 := sG.trans sT
      have bk1 : BackAt (upd G T1 (.tup [.int (i : Int), .ref ra])) D bas B := bk.mono fun b o e _ => sT _ _ e
      generalize upd G T1 (.tup [.int (i : Int), .ref ra]) = G1 at sG1 bk1
      -- for group in row
      refine ⟨.ref ra, rfl, ra, rfl, ⟨_, .inl (.inl (sG1 _ _ ega))⟩, ?_⟩
      refine for_it (walk_list (K := K) (a := ra) (xs := vr gas)) (fun c σ G => Same H G ∧ (∃ B : List (List Nat), BackAt G D bas B ∧ (∀ xs ∈ B, xs.length ≤ 5 * i + c) ∧ ∀ (k j : Nat) (xs : List Nat), B[k]? = some xs → (j ∈ xs ↔ (j < i ∧ ∃ c, AtT tbl j c k) ∨ (j = i ∧ ∃ c', c' < c ∧ row[c']? = some k))) ∧ ∃ y5 y6, σ = [some (.ref ta), some (.ref ea), some (.ref D), some (.int (i : Int)), some (.ref ra), y5, y6, none, none, none]) ⟨sG1, ⟨B, bk1, lB, fun k j xs y => by rw [mB k j xs y]; exact ⟨.inl, fun h => h.elim id fun ⟨_, _, h, _⟩ => absurd h (Nat.not_lt_zero _)⟩⟩, y5, y6, rfl⟩ (fun c σ G _ hW => .inl (.inl (hW.1 _ _ ega))) (fun c x σ G2 G2' hc hW hY => ?_) (fun σ G2 hW => ?_)
      · obtain ⟨sG2, ⟨B, bk2, lB, mB⟩, y5, y6, rfl⟩ := hW
        obtain ⟨rfl, hx⟩ := hY
        obtain ⟨ga, hga, rfl⟩ := vr_at hx
        rw [List.length_map] at hc
        have hv_ := List.getElem?_eq_getElem (l := row) (i := c) (by omega)
        have hvn := hrv _ (List.getElem_mem (l := row) (n := c) (by omega))
        generalize row[c]'(by omega) = v at hv_ hvn
        have eg := cga c ga v hga hv_
        refine ⟨.ref ga, rfl, ga, rfl, ⟨_, .inl (.inl (sG2 _ _ eg))⟩, ?_⟩
        -- for target in group
        refine for_it (walk_list (K := K) (a := ga) (xs := vi [v])) (fun n σ G => Same H G ∧ (∃ B : List (List Nat), BackAt G D bas B ∧ (∀ xs ∈ B, xs.length ≤ 5 * i + c + n) ∧ ∀ (k j : Nat) (xs : List Nat), B[k]? = some xs → (j ∈ xs ↔ ((j < i ∧ ∃ c, AtT tbl j c k) ∨ (j = i ∧ ∃ c', c' < c ∧ row[c']? = some k)) ∨ (n = 1 ∧ j = i ∧ k = v))) ∧ ∃ y6, σ = [some (.ref ta), some (.ref ea), some (.ref D), some (.int (i : Int)), some (.ref ra), some (.ref ga), y6, none, none, none]) ⟨sG2, ⟨B, bk2, lB, fun k j xs y => by rw [mB k j xs y]; exact ⟨.inl, fun h => h.elim id fun h => absurd h.1 (by decide)⟩⟩, y6, rfl⟩ (fun n σ G _ hW => .inl (.inl (hW.1 _ _ eg))) (fun n x σ G3 G3' hn1 hW hY => ?_) (fun σ G3 hW => ?_)
        · obtain ⟨sG3, ⟨B, bk3, lB, mB⟩, y6, rfl⟩ := hW
          obtain ⟨rfl, hx⟩ := hY
          have hn1 : n < 1 := hn1
          obtain rfl : n = 0 := by omega
          have hx : some (V.int (v : Int)) = some x := hx
          cases hx
          have hbv := List.getElem?_eq_getElem (l := bas) (i := v) (by omega)
          have hbm := List.getElem_mem (l := bas) (n := v) (by omega)
          generalize bas[v]'(by omega) = b at hbv hbm
          have hBl := bk3.2.1
          have hBv := List.getElem?_eq_getElem (l := B) (i := v) (by omega)
          have hBm := List.getElem_mem (l := B) (n := v) (by omega)
          generalize B[v]'(by omega) = xs at hBv hBm
          have eb := bk3.2.2.2.2 v b xs hbv hBv
          have lx := lB xs hBm
          refine ⟨.ref D, rfl, .int (v : Int), rfl, D, _, (v : Int), .ref b, rfl, rfl, .inl (.inl bk3.1), atI_nat (vr_get hbv), .inl ⟨rfl, _, .inl (.inl eb)⟩, .int (i : Int), rfl, b, _, _, rfl, rfl, eb, by rw [List.length_map]; exact sl _ (by omega), ?_⟩
          rw [vi_snoc]
          refine ⟨up hbm sG3, ⟨B.set v (xs ++ [i]), bk3.put hbv hBv, fun zs hz => ?_, fun k j zs y => ?_⟩, _, rfl⟩
          · rcases List.mem_or_eq_of_mem_set hz with h | rfl
            · have := lB zs h
              omega
            · rw [List.length_append]
              show xs.length + 1 ≤ _
              omega
          · by_cases e : v = k
            · subst e
              rw [List.getElem?_set_self (by omega)] at y
              cases y
              rw [List.mem_append, List.mem_singleton, mB v j xs hBv]
              constructor
              · rintro ((h | h) | h)
                · exact .inl h
                · exact absurd h.1 (by decide)
                · exact .inr ⟨rfl, h, rfl⟩
              · rintro (h | ⟨_, h, _⟩)
                · exact .inl (.inl h)
                · exact .inr h
            · rw [List.getElem?_set_ne e] at y
              rw [mB k j zs y]
              constructor
              · rintro (h | h)
                · exact .inl h
                · exact absurd h.1 (by decide)
              · rintro (h | ⟨_, _, h⟩)
                · exact .inl h
                · exact absurd h.symm e
        · obtain ⟨sG3, ⟨B, bk3, lB, mB⟩, y6, rfl⟩ := hW
          refine ⟨sG3, ⟨B, bk3, lB, fun k j xs y => ?_⟩, _, _, rfl⟩
          rw [mB k j xs y]
          constructor
          · rintro ((h | ⟨h1, c', h2, h3⟩) | ⟨_, h1, h2⟩)
            · exact .inl h
            · exact .inr ⟨h1, c', by omega, h3⟩
            · exact .inr ⟨h1, c, Nat.lt_succ_self c, h2 ▸ hv_⟩
          · rintro (h | ⟨h1, c', h2, h3⟩)
            · exact .inl (.inl h)
            · by_cases e : c' < c
              · exact .inl (.inr ⟨h1, c', e, h3⟩)
              · obtain rfl : c' = c := by omega
                rw [hv_] at h3
                exact .inr ⟨rfl, h1, (Option.some.inj h3).symm⟩
      · obtain ⟨sG2, ⟨B, bk2, lB, mB⟩, y5, y6, rfl⟩ := hW
        rw [List.length_map] at lB mB
        refine ⟨sG2, ⟨B, bk2, fun xs hx => by have := lB xs hx; omega, fun k j xs y => ?_⟩, _, _, _, _, rfl⟩
        rw [mB k j xs y]
        constructor
        · rintro (⟨h1, h2⟩ | ⟨rfl, c', _, h3⟩)
          · exact ⟨by omega, h2⟩
          · exact ⟨Nat.lt_succ_self _, c', row, hrow_, h3⟩
        · rintro ⟨h1, c', h2⟩
          by_cases e : j < i
          · exact .inl ⟨e, c', h2⟩
          · obtain rfl : j = i := by omega
            obtain ⟨r', a1, a2⟩ := h2
            rw [hrow_] at a1
            cases a1
            exact .inr ⟨rfl, c', by rw [lga]; exact (List.getElem?_eq_some_iff.mp a2).1, a2⟩
    obtain ⟨sm2, ⟨B, bk2, lB, mB⟩, y3, y4, y5, y6, rfl⟩ := hW
    rw [List.length_map, hrl] at lB mB
    have hBl := bk2.2.1
    have mB : ∀ (k j : Nat) (xs : List Nat), B[k]? = some xs → (j ∈ xs ↔ ∃ c, AtT tbl j c k) := fun k j xs y => by
      rw [mB k j xs y]
      exact ⟨fun h => h.2, fun ⟨c, h⟩ => ⟨by obtain ⟨r, a, _⟩ := h; exact (List.getElem?_eq_some_iff.mp a).1, c, h⟩⟩
    -- leads
    refine ⟨.ref ea, rfl, ea, _, rfl, .inl (.inl (.inl (sm2 _ _ he))), fun lp nlp => ?_⟩
    have s3 := same_new (o := .lst (vb bs)) nlp
    have elp : (upd G2 lp (.lst (vb bs))) lp = some (.lst (vb bs)) := upd_same
    have flp : H lp = none := sm2.free nlp
    have bk3 : BackAt (upd G2 lp (.lst (vb bs))) D bas B := bk2.mono fun b o e _ => s3 _ _ e
    have sm3 := sm2.trans s3
    generalize upd G2 lp (.lst (vb bs)) = G3 at s3 elp bk3 sm3
    -- found
    refine ⟨.ref ea, rfl, ea, _, rfl, .inl (.inl (sm3 _ _ he)), fun fo nfo => ?_⟩
    have ffo : H fo = none := sm3.free nfo
    refine lc_it (walk_enum (K := K) (a := ea) (xs := vb bs)) (fun i G => Same G3 G ∧ ∃ fs : List Nat, G fo = some (.lst (vi fs)) ∧ fs.length ≤ i ∧ ∀ j, j ∈ fs ↔ j < i ∧ bs[j]? = some true) ⟨same_new nfo, [], upd_same, Nat.le_refl _, fun j => ⟨fun h => (nomatch h), fun h => absurd h.1 (Nat.not_lt_zero _)⟩⟩ (fun i G _ hW => .inl (.inl (hW.1 _ _ (sm3 _ _ he)))) (fun i x G G' hi hW hY => ?_) (fun G4 hW => ?_)
    · obtain ⟨sG, fs, ef, lf, mf⟩ := hW
      obtain ⟨T1, v1, v2, rfl, nT1, rfl, e1, e2⟩ := hY
      cases e1
      rw [List.length_map] at hi
      obtain ⟨b, hb, rfl⟩ := vb_at e2
      have sT := same_new (o := .tup [.int (i : Int), .bl b]) nT1
      refine ⟨T1, [.int (i : Int), .bl b], rfl, .inl (.inl upd_same), rfl, .int (i : Int), [.bl b], rfl, .bl b, [], rfl, rfl, ?_⟩
      refine ⟨rfl, .bl b, rfl, b, rfl, ?_⟩
      cases b with
      | true =>
        refine iteT ⟨.int (i : Int), rfl, vi fs, sT _ _ ef, by rw [List.length_map]; exact sl _ (by omega), ?_, fs ++ [i], by rw [upd_same, vi_snoc], by rw [List.length_append]; show fs.length + 1 ≤ i + 1; omega, fun j => ?_⟩
        · intro c o e
          rw [upd_ne (ne_of_none e nfo)]
          exact sT _ _ (sG _ _ e)
        · rw [List.mem_append, List.mem_singleton, mf j]
          constructor
          · rintro (⟨a, b⟩ | rfl)
            · exact ⟨by omega, b⟩
            · exact ⟨Nat.lt_succ_self _, hb⟩
          · rintro ⟨a, b⟩
            by_cases e : j < i
            · exact .inl ⟨e, b⟩
            · exact .inr (by omega)
      | false =>
        refine iteF ⟨sG.trans sT, fs, sT _ _ ef, by omega, fun j => ?_⟩
        rw [mf j]
        constructor
        · rintro ⟨a, b⟩
          exact ⟨by omega, b⟩
        · rintro ⟨a, b⟩
          refine ⟨?_, b⟩
          by_cases e : j < i
          · exact e
          · obtain rfl : j = i := by omega
            rw [hb] at b
            cases b
    obtain ⟨s4, fs0, ef0, lf0, mf0⟩ := hW
    rw [List.length_map] at lf0 mf0
    have elp4 := s4 _ _ elp
    have bk4 : BackAt G4 D bas B := bk3.mono fun b o e _ => s4 _ _ e
    have sm4 := sm3.trans s4
    have lpf : lp ≠ fo := ne_of_none elp nfo
    have Dlp : D ≠ lp := ne_of_none bk2.1 nlp
    have Dfo : D ≠ fo := ne_of_none bk3.1 nfo
    have blp : ∀ b ∈ bas, b ≠ lp ∧ b ≠ fo := fun b hb => by
      obtain ⟨k, hk⟩ := List.mem_iff_getElem?.mp hb
      have hkl := (List.getElem?_eq_some_iff.mp hk).1
      have hBk := List.getElem?_eq_getElem (l := B) (i := k) (by omega)
      exact ⟨ne_of_none (bk2.2.2.2.2 k b _ hk hBk) nlp, ne_of_none (bk3.2.2.2.2 k b _ hk hBk) nfo⟩
    -- while
    refine ⟨fun m σ G => ∃ (ls : List Bool) (fs : List Nat) (y3 y6 : Option V), m = fs.length + ls.count false ∧ σ = [some (.ref ta), some (.ref ea), some (.ref D), y3, y4, y5, y6, some (.ref lp), some (.ref fo), none] ∧ (∀ b o, b ≠ lp → b ≠ fo → G4 b = some o → G b = some o) ∧ G lp = some (.lst (vb ls)) ∧ G fo = some (.lst (vi fs)) ∧ ls.length = tbl.length ∧ (∀ j : Nat, ls[j]? = some true → Lead tbl bs j) ∧ (∀ j ∈ fs, ls[j]? = some true) ∧ (∀ j : Nat, bs[j]? = some true → ls[j]? = some true) ∧ (∀ k : Nat, ls[k]? = some true → k ∈ fs ∨ ∀ j c : Nat, AtT tbl j c k → ls[j]? = some true) ∧ m ≤ 2 * tbl.length,
      ⟨_, bs, fs0, y3, y6, rfl, rfl, fun _ _ _ _ e => e, elp4, ef0, hbl, fun j h => .stop h, fun j h => ((mf0 j).mp h).2, fun j h => h, fun k h => .inl ((mf0 k).mpr ⟨(List.getElem?_eq_some_iff.mp h).1, h⟩), by have := List.count_le_length (a := false) (l := bs); omega⟩, fun m σ G hW => ?_⟩
    obtain ⟨ls, fs, y3, y6, hm, rfl, fr, el, ef, ll, snd, ftr, stp, clo, hbm⟩ := hW
    refine ⟨.ref fo, rfl, fo, _, rfl, .inl (.inl (.inl ef)), _, 0, rfl, rfl, _, rfl, ite2 (fun z => ?_) (fun z => ?_)⟩
    · have hpos : 0 < fs.length := by
        have := of_decide_eq_true z
        rw [List.length_map] at this
        omega
      have hne : fs ≠ [] := List.length_pos_iff.mp hpos
      have eapp := List.dropLast_concat_getLast hne
      have hlast := List.getLast_mem hne
      have hge : fs[fs.length - 1]? = some (fs.getLast hne) := by
        rw [List.getLast_eq_getElem, List.getElem?_eq_getElem]
      generalize fs.getLast hne = t at eapp hlast hge
      have htt := ftr t hlast
      have htl : t < tbl.length := by
        rw [← ll]
        exact (List.getElem?_eq_some_iff.mp htt).1
      refine ⟨fun σ' G' => ∃ (ls : List Bool) (fs : List Nat) (y3 y6 : Option V), fs.length + ls.count false + 1 = m ∧ σ' = [some (.ref ta), some (.ref ea), some (.ref D), y3, y4, y5, y6, some (.ref lp), some (.ref fo), none] ∧ (∀ b o, b ≠ lp → b ≠ fo → G4 b = some o → G' b = some o) ∧ G' lp = some (.lst (vb ls)) ∧ G' fo = some (.lst (vi fs)) ∧ ls.length = tbl.length ∧ (∀ j : Nat, ls[j]? = some true → Lead tbl bs j) ∧ (∀ j ∈ fs, ls[j]? = some true) ∧ (∀ j : Nat, bs[j]? = some true → ls[j]? = some true) ∧ (∀ k : Nat, ls[k]? = some true → k ∈ fs ∨ ∀ j c : Nat, AtT tbl j c k → ls[j]? = some true) ∧ m ≤ 2 * tbl.length, fun σ' G' hN => ?_, ?_⟩
      · obtain ⟨ls, fs, y3, y6, c1, c2⟩ := hN
        obtain ⟨d1, d2, d3, d4, d5, d6, d7, d8, d9, d10⟩ := c2
        exact ⟨m - 1, by omega, ls, fs, y3, y6, by omega, d1, d2, d3, d4, d5, d6, d7, d8, d9, by omega⟩
      -- target = found.pop()
      refine ⟨.ref fo, rfl, .inl ⟨rfl, _, .inl (.inl ef)⟩, fo, _, .int (t : Int), rfl, rfl, ef, by rw [List.length_map]; exact vi_get hge, ?_⟩
      have ld : fs.dropLast.length + 1 = fs.length := by rw [List.length_dropLast]; omega
      have hbt := List.getElem?_eq_getElem (l := bas) (i := t) (by omega)
      have hbB := List.getElem_mem (l := bas) (n := t) (by omega)
      generalize bas[t]'(by omega) = b at hbt hbB
      have hBt := List.getElem?_eq_getElem (l := B) (i := t) (by omega)
      generalize B[t]'(by omega) = xs at hBt
      obtain ⟨b1, b2⟩ := blp b hbB
      have eb4 := bk4.2.2.2.2 t b xs hbt hBt
      have elb : G lp = some (.lst (vb ls)) := el
      have frp : ∀ c o, c ≠ lp → c ≠ fo → G4 c = some o → (upd G fo (.lst (vi fs).dropLast)) c = some o := fun c o h1 h2 e => by
        rw [upd_ne h2]
        exact fr c o h1 h2 e
      refine ⟨.ref D, rfl, .int (t : Int), rfl, D, _, (t : Int), .ref b, rfl, rfl, .inl (.inl (frp _ _ Dlp Dfo bk4.1)), atI_nat (vr_get hbt), b, rfl, ⟨_, .inl (.inl (frp _ _ b1 b2 eb4))⟩, ?_⟩
      refine for_it (walk_list (K := K) (a := b) (xs := vi xs)) (fun i σ G' => ∃ (ls : List Bool) (fs : List Nat) (y3 : Option V), fs.length + ls.count false + 1 = m ∧ σ = [some (.ref ta), some (.ref ea), some (.ref D), y3, y4, y5, some (.int (t : Int)), some (.ref lp), some (.ref fo), none] ∧ (∀ b o, b ≠ lp → b ≠ fo → G4 b = some o → G' b = some o) ∧ G' lp = some (.lst (vb ls)) ∧ G' fo = some (.lst (vi fs)) ∧ ls.length = tbl.length ∧ (∀ j : Nat, ls[j]? = some true → Lead tbl bs j) ∧ (∀ j ∈ fs, ls[j]? = some true) ∧ (∀ j : Nat, bs[j]? = some true → ls[j]? = some true) ∧ (∀ k : Nat, ls[k]? = some true → k = t ∨ k ∈ fs ∨ ∀ j c : Nat, AtT tbl j c k → ls[j]? = some true) ∧ (∀ j ∈ xs.take i, ls[j]? = some true) ∧ ls[t]? = some true) ⟨ls, fs.dropLast, y3, by omega, rfl, frp, by rw [upd_ne lpf]; exact el, by rw [upd_same, vi_dropLast], ll, snd, (fun j h => ftr j (List.dropLast_subset _ h)), stp, (fun k h => ?_), (fun j h => by rw [List.take_zero] at h; cases h), htt⟩ (fun i σ G' _ hW => ?_) (fun i x σ G5 G5' hi hW hY => ?_) (fun σ G5 hW => ?_)
      · rcases clo k h with h2 | h2
        · rw [← eapp] at h2
          rcases List.mem_append.mp h2 with h3 | h3
          · exact .inr (.inl h3)
          · exact .inl (List.mem_singleton.mp h3)
        · exact .inr (.inr h2)
      · obtain ⟨_, _, _, _, _, z, _⟩ := hW
        exact .inl (.inl (z _ _ b1 b2 eb4))
      · obtain ⟨ls, fs, y3, hm5, rfl, fr5, el5, ef5, ll5, snd5, ftr5, stp5, clo5, tk5, tt5⟩ := hW
        obtain ⟨rfl, hx⟩ := hY
        obtain ⟨j, hj, rfl⟩ := int_at hx
        obtain ⟨c, hat⟩ := (mB t j xs hBt).mp (List.mem_of_getElem? hj)
        have hjl : j < ls.length := by
          rw [ll5]
          obtain ⟨r, a1, _⟩ := hat
          exact (List.getElem?_eq_some_iff.mp a1).1
        have hlj := List.getElem?_eq_getElem hjl
        generalize ls[j] = v at hlj
        refine ⟨.ref lp, rfl, .int (j : Int), rfl, lp, _, (j : Int), .bl v, rfl, rfl, .inl (.inl el5), atI_nat (vb_get hlj), v, rfl, ?_⟩
        cases v with
        | true =>
          refine iteF ⟨ls, fs, _, hm5, rfl, fr5, el5, ef5, ll5, snd5, ftr5, stp5, clo5, fun u hu => ?_, tt5⟩
          rw [List.take_add_one, hj] at hu
          rcases List.mem_append.mp hu with h | h
          · exact tk5 u h
          · rw [List.mem_singleton.mp h]
            exact hlj
        | false =>
          have hc := count_put hlj
          refine iteT ⟨.ref lp, rfl, .int (j : Int), rfl, lp, _, (j : Int), j, rfl, rfl, el5, ?_, ?_⟩
          · unfold ixN
            rw [List.length_map, if_pos (by omega), if_pos (by omega)]
            simp
          have ef6 : (upd G5' lp (.lst ((vb ls).set j (.bl true)))) fo = some (.lst (vi fs)) := by
            rw [upd_ne lpf.symm]
            exact ef5
          refine ⟨.ref fo, rfl, .inl ⟨rfl, _, .inl (.inl ef6)⟩, .int (j : Int), rfl, fo, _, _, rfl, rfl, ef6, by rw [List.length_map]; exact sl _ (by omega), ls.set j true, fs ++ [j], _, ?_, rfl, ?_, ?_, ?_, by rw [List.length_set]; exact ll5, fun k h => ?_, mem_snoc (fun k h => set_true (ftr5 k h)) (by rw [List.getElem?_set_self hjl]), fun k h => set_true (stp5 k h), fun k h => ?_, fun u hu => ?_, set_true tt5⟩
          · rw [List.length_append]
            show fs.length + 1 + _ + 1 = m
            omega
          · intro c' o h1 h2 e
            rw [upd_ne h2, upd_ne h1]
            exact fr5 c' o h1 h2 e
          · rw [upd_ne lpf, upd_same, vb_set]
          · rw [upd_same, vi_snoc]
          · rcases set_back h with rfl | h
            · exact .step hat (snd5 t tt5)
            · exact snd5 k h
          · rcases set_back h with rfl | h
            · exact .inr (.inl (List.mem_append_right _ (List.mem_singleton.mpr rfl)))
            · rcases clo5 k h with h2 | h2 | h2
              · exact .inl h2
              · exact .inr (.inl (List.mem_append_left _ h2))
              · exact .inr (.inr fun a b c => set_true (h2 a b c))
          · rw [List.take_add_one, hj] at hu
            rcases List.mem_append.mp hu with h | h
            · exact set_true (tk5 u h)
            · rw [List.mem_singleton.mp h, List.getElem?_set_self hjl]
      · obtain ⟨ls, fs, y3, hm5, rfl, fr5, el5, ef5, ll5, snd5, ftr5, stp5, clo5, tk5, tt5⟩ := hW
        rw [List.length_map, List.take_of_length_le (Nat.le_refl _)] at tk5
        refine ⟨ls, fs, _, _, hm5, rfl, fr5, el5, ef5, ll5, snd5, ftr5, stp5, fun k h => ?_, hbm⟩
        rcases clo5 k h with rfl | h2 | h2
        · exact .inr fun j c hat => tk5 j ((mB k j xs hBt).mpr ⟨c, hat⟩)
        · exact .inl h2
        · exact .inr h2
    · have hz : fs = [] := by
        have : ¬ (0 : Int) < ((vi fs).length : Nat) := fun y => z (decide_eq_true y)
        rw [List.length_map] at this
        exact List.length_eq_zero_iff.mp (by omega)
      subst hz
      have sG : Same H G := fun b o e => fr b o (ne_of_none e flp) (ne_of_none e ffo) (sm4 _ _ e)
      refine ⟨.ref lp, rfl, q G lp ls sG flp el ll fun j => ⟨snd j, fun h => ?_⟩⟩
      induction h with
      | stop h => exact stp _ h
      | step hat _ ih =>
        rcases clo _ ih with h2 | h2
        · cases h2
        · exact h2 _ _ hat
end
end LH

namespace LH
open PySem PySem.Spec PyProof.Rows L2 NdefX LamX
theorem vb_snoc (bs : List Bool) (b : Bool) : vb bs ++ [V.bl b] = vb (bs ++ [b]) := by
  unfold vb
  rw [List.map_append]
  rfl
/-! ### states that are come to, states that lead on -/
inductive RchS (R : Nat → List Nat) (s0 : Nat) : Nat → Prop
  | refl : RchS R s0 s0
  | step {s t : Nat} : RchS R s0 s → t ∈ R s → RchS R s0 t
inductive LdS (R : Nat → List Nat) (fin : Nat → Bool) : Nat → Prop
  | stop {s : Nat} : fin s = true → LdS R fin s
  | step {s t : Nat} : t ∈ R s → LdS R fin t → LdS R fin s
structure UsOk (R : Nat → List Nat) (fin : Nat → Bool) (s0 n0 : Nat) (us : List Nat) : Prop where
  nd : us.Nodup
  lt : ∀ s ∈ us, s < n0
  mem : ∀ s, s ∈ us ↔ RchS R s0 s ∧ LdS R fin s
def WaysAt (H : Hp) (wa : Addr) (us : List Nat) (L : Nat) (R : Nat → List Nat) : Prop := ∃ cas : List Addr, H wa = some (.lst (vr cas)) ∧ cas.length = L ∧ ∀ (c : Nat) (ca : Addr), cas[c]? = some ca → ∃ xs : List Addr, H ca = some (.lst (vr xs)) ∧ xs.length = us.length ∧ ∀ (i : Nat) (x : Addr) (s t : Nat), xs[i]? = some x → us[i]? = some s → (R s)[c]? = some t → H x = some (.lst (vi (if t ∈ us then [us.idxOf t] else [])))
theorem WaysAt.mono {H H' : Hp} {wa : Addr} {us : List Nat} {L : Nat} {R : Nat → List Nat} (m : ∀ b xs, H b = some (.lst xs) → H' b = some (.lst xs)) (h : WaysAt H wa us L R) : WaysAt H' wa us L R := by
  obtain ⟨cas, a, b, c⟩ := h
  refine ⟨cas, m _ _ a, b, fun k ca e => ?_⟩
  obtain ⟨xs, d1, d2, d3⟩ := c k ca e
  exact ⟨xs, m _ _ d1, d2, fun i x s t e1 e2 e3 => m _ _ (d3 i x s t e1 e2 e3)⟩
/-! ### numbers and states -/
section
variable {n0 L s0 : Nat} {R : Nat → List Nat} {fin : Nat → Bool} {ks : List Nat} {tbl : List (List Nat)}
theorem num_at {j : Nat} (h : j < ks.length) : ks[j]? = some (ks.getD j 0) := by
  rw [List.getD_eq_getElem?_getD, List.getElem?_eq_getElem h]
  rfl
theorem num_inj (nd : ks.Nodup) {i j : Nat} (hi : i < ks.length) (hj : j < ks.length) (e : ks.getD i 0 = ks.getD j 0) : i = j := by
  have a := num_at hi
  have b := num_at hj
  rw [List.getElem?_eq_getElem hi] at a
  rw [List.getElem?_eq_getElem hj] at b
  refine (List.getElem_inj (h₀ := hi) (h₁ := hj) nd).mp ?_
  rw [Option.some.inj a, Option.some.inj b, e]
theorem at_num (wi : WI n0 L R s0 ks tbl) (hlen : tbl.length = ks.length) {j c v : Nat} (h : AtT tbl j c v) : j < ks.length ∧ v < ks.length ∧ (R (ks.getD j 0))[c]? = some (ks.getD v 0) := by
  obtain ⟨row, a, b⟩ := h
  have hj : j < ks.length := by
    rw [← hlen]
    exact (List.getElem?_eq_some_iff.mp a).1
  obtain ⟨_, z⟩ := wi.row j _ row (num_at hj) a
  obtain ⟨t, y1, y2⟩ := z c v b
  have hv := (List.getElem?_eq_some_iff.mp y2).1
  rw [num_at hv] at y2
  exact ⟨hj, hv, by rw [y1, ← Option.some.inj y2]⟩
theorem num_at_ex (wi : WI n0 L R s0 ks tbl) (hlen : tbl.length = ks.length) (full : ∀ r ∈ tbl, r.length = L) (hR : ∀ s, s < n0 → (R s).length = L ∧ ∀ t ∈ R s, t < n0) {j t : Nat} (hj : j < ks.length) (ht : t ∈ R (ks.getD j 0)) : ∃ c v, AtT tbl j c v ∧ ks.getD v 0 = t := by
  have hjt : j < tbl.length := by omega
  have a := List.getElem?_eq_getElem hjt
  have hl := full _ (List.getElem_mem hjt)
  generalize tbl[j] = row at a hl
  obtain ⟨c, hc⟩ := List.mem_iff_getElem?.mp ht
  have hcl := (List.getElem?_eq_some_iff.mp hc).1
  have hs := wi.lt _ (List.mem_of_getElem? (num_at hj))
  have b := List.getElem?_eq_getElem (l := row) (i := c) (by rw [hl, ← (hR _ hs).1]; exact hcl)
  obtain ⟨_, z⟩ := wi.row j _ row (num_at hj) a
  obtain ⟨t', y1, y2⟩ := z c _ b
  rw [hc] at y1
  cases y1
  have hv := (List.getElem?_eq_some_iff.mp y2).1
  rw [num_at hv] at y2
  exact ⟨c, _, ⟨row, a, b⟩, Option.some.inj y2⟩
theorem lead_iff (wi : WI n0 L R s0 ks tbl) (hlen : tbl.length = ks.length) (full : ∀ r ∈ tbl, r.length = L) (hR : ∀ s, s < n0 → (R s).length = L ∧ ∀ t ∈ R s, t < n0) {j : Nat} (hj : j < ks.length) : Lead tbl (ks.map fin) j ↔ LdS R fin (ks.getD j 0) := by
  constructor
  · intro h
    induction h with
    | stop h =>
      rw [List.getElem?_map, num_at hj] at h
      exact .stop (Option.some.inj h)
    | step hat _ ih =>
      obtain ⟨_, hv, e⟩ := at_num wi hlen hat
      exact .step (List.mem_of_getElem? e) (ih hv)
  · intro h
    generalize hs : ks.getD j 0 = s at h
    induction h generalizing j with
    | stop h =>
      refine .stop ?_
      rw [List.getElem?_map, num_at hj, hs]
      exact congrArg some h
    | step ht _ ih =>
      rw [← hs] at ht
      obtain ⟨c, v, hat, e⟩ := num_at_ex wi hlen full hR hj ht
      exact .step hat (ih (at_num wi hlen hat).2.1 e)
theorem rch_mem (wi : WI n0 L R s0 ks tbl) (hlen : tbl.length = ks.length) (full : ∀ r ∈ tbl, r.length = L) (hR : ∀ s, s < n0 → (R s).length = L ∧ ∀ t ∈ R s, t < n0) {s : Nat} : s ∈ ks ↔ RchS R s0 s := by
  constructor
  · intro h
    obtain ⟨k, hk⟩ := List.mem_iff_getElem?.mp h
    induction k using Nat.strongRecOn generalizing s with
    | _ k ih =>
      by_cases h0 : k = 0
      · subst h0
        rw [wi.one] at hk
        cases hk
        exact .refl
      · have hl := (List.getElem?_eq_some_iff.mp hk).1
        obtain ⟨r, c, hr, hat, _⟩ := wi.bfs k (by omega) hl
        obtain ⟨h1, h2, e⟩ := at_num wi hlen hat
        rw [num_at h2] at hk
        cases hk
        exact .step (ih r hr (List.mem_of_getElem? (num_at h1)) (num_at h1)) (List.mem_of_getElem? e)
  · intro h
    induction h with
    | refl => exact List.mem_of_getElem? wi.one
    | step _ ht ih =>
      obtain ⟨j, hj⟩ := List.mem_iff_getElem?.mp ih
      have hjl := (List.getElem?_eq_some_iff.mp hj).1
      rw [num_at hjl] at hj
      cases hj
      obtain ⟨c, v, hat, e⟩ := num_at_ex wi hlen full hR hjl ht
      exact e ▸ List.mem_of_getElem? (num_at (at_num wi hlen hat).2.1)
end
theorem idx_map {ks : List Nat} (nd : ks.Nodup) : ∀ {os : List Nat} {v : Nat}, (∀ a ∈ os, a < ks.length) → v < ks.length → (os.map fun j => ks.getD j 0).idxOf (ks.getD v 0) = os.idxOf v ∧ (ks.getD v 0 ∈ (os.map fun j => ks.getD j 0) ↔ v ∈ os)
  | [], v, _, _ => ⟨rfl, by simp⟩
  | a :: os, v, h, hv => by
    obtain ⟨i1, i2⟩ := idx_map nd (os := os) (v := v) (fun b hb => h b (List.mem_cons_of_mem _ hb)) hv
    have ha := h a List.mem_cons_self
    rw [List.map_cons, List.idxOf_cons, List.idxOf_cons, List.mem_cons, List.mem_cons, i1, i2]
    by_cases e : a = v
    · subst e
      simp
    · have ne : ks.getD a 0 ≠ ks.getD v 0 := fun q => e (num_inj nd ha hv q)
      rw [show (ks.getD a 0 == ks.getD v 0) = false from beq_eq_false_iff_ne.mpr ne, show (a == v) = false from beq_eq_false_iff_ne.mpr e]
      refine ⟨rfl, ?_⟩
      constructor
      · rintro (q | q)
        · exact absurd q.symm ne
        · exact .inr q
      · rintro (q | q)
        · exact absurd q.symm e
        · exact .inr q
def osF (ls : List Bool) (i : Nat) : List Nat := (List.range i).filter fun j => decide (ls[j]? = some true)
theorem osF_mem {ls : List Bool} {i j : Nat} : j ∈ osF ls i ↔ j < i ∧ ls[j]? = some true := by
  unfold osF
  rw [List.mem_filter, List.mem_range, decide_eq_true_iff]
theorem osF_nd (ls : List Bool) (i : Nat) : (osF ls i).Nodup := List.Nodup.sublist List.filter_sublist List.nodup_range
theorem osF_succ {ls : List Bool} {i : Nat} : osF ls (i + 1) = if ls[i]? = some true then osF ls i ++ [i] else osF ls i := by
  unfold osF
  rw [List.range_succ, List.filter_append]
  by_cases e : ls[i]? = some true
  · rw [if_pos e, List.filter_cons, if_pos (decide_eq_true e)]
    rfl
  · rw [if_neg e, List.filter_cons, if_neg (by rw [decide_eq_false e]; exact Bool.false_ne_true), List.filter_nil, List.append_nil]
theorem mk_at {ks : List Nat} {i : Nat} {k : Key} {v : V} (h : (mk ks)[i]? = some (k, v)) : ∃ s, ks[i]? = some s ∧ k = Sum.inl (s : Int) ∧ v = .int (i : Int) := by
  rw [List.getElem?_map, List.getElem?_zipIdx] at h
  cases e : ks[i]? with
  | none =>
    rw [e] at h
    cases h
  | some s =>
    rw [e] at h
    cases h
    exact ⟨s, rfl, rfl, by simp⟩
section
variable {P : Program} {w : World} {K : PySem.W.Frag} {mg : Str → Option Value} {base : Heap}
def sp_useful_ways (P : Program) (w : World) (K : PySem.W.Frag) (mg : Str → Option Value) (base : Heap) : Sp := fun vs H Q _ => ∃ (st f g : Addr) (F G : NF) (spf spg : Sp) (s0 n0 L : Nat) (R : Nat → List Nat) (fin : Nat → Bool), vs = [.ref st, .ref f, .ref g] ∧ H st = some (.lst (vi [s0])) ∧ H f = some (FnO f F) ∧ Callable P w K mg base 4 f spf ∧ H g = some (FnO g G) ∧ Callable P w K mg base 4 g spg ∧ s0 < n0 ∧ n0 ≤ 100000 ∧ 1 ≤ L ∧ L ≤ 5 ∧ (∀ s, s < n0 → (R s).length = L ∧ ∀ t ∈ R s, t < n0) ∧ MovesOk H n0 R spf ∧
  (∀ (s : Nat) (H' : Hp) (Q' : VK), s < n0 → Same H H' → (∀ H'', Same H' H'' → Q' (.bl (fin s)) H'') → spg [.int (s : Int)] H' Q' E0) ∧
  ∀ H' p fa wa ea us, Same H H' → H' p = some (.tup [.ref fa, .ref wa, .ref ea]) → H' fa = some (.lst (vi (if s0 ∈ us then [us.idxOf s0] else []))) → WaysAt H' wa us L R → H' ea = some (.lst (vb (us.map fin))) → UsOk R fin s0 n0 us → Q (.ref p) H'
theorem ok_useful_ways (T : TX K mg) : FnOk P w K mg base CX0 6 T.a_useful_ways T.fd_useful_ways ["starts", "moves", "is_end"] (sp_useful_ways P w K mg base) := by
  have G_explored : FnOk P w K mg base CX0 5 T.a_explored T.fd_explored ["starts", "moves"] (sp_explored P w K mg base) := ok_explored T
  have G_leading : FnOk P w K mg base CX0 1 T.a_leading T.fd_leading ["rows", "ended"] sp_leading := ok_leading T
  refine T.F_useful_ways.ok sc_useful_ways (fun vs H Q E h => ?_) (fun cdv A outer s H vs Q E hr h => ?_)
  · obtain ⟨st, f, g, F, G, spf, spg, s0, n0, L, R, fin, rfl, _⟩ := h
    rfl
  · obtain ⟨st, f, g, F, G, spf, spg, s0, n0, L, R, fin, rfl, est, hf, caf, hg, cag, h0, hbig, hL1, hL5, hR, hmv, hfin, q⟩ := h
    refine ⟨_, (pss_cons (ps_asg (pe_call G_explored (hr.mono (by decide)) (by rfl) T.g_explored T.F_explored.kp T.b_explored .nil pass0 (pa_cons (pv 0) (pa_cons (pv 1) pa_nil))) (pg_tupK (n := 2) K rfl (by rfl) (pgs_cons (pg_name (i := 3) sc_useful_ways.nd rfl (Or.inl rfl)) (pgs_cons (pg_name (i := 4) sc_useful_ways.nd rfl (Or.inr rfl)) pgs_nil))))
      (pss_cons (ps_set (i := 5) sc_useful_ways.nd rfl (Or.inr rfl) (pe_lc (own := [("key", 12)]) (g := gName 12) (tt := tYes) (by rfl) sc_useful_ways.nd (pi_listK K rfl (pv 3)) (blkOk_by (own := [("key", 12)]) (N := N_useful_ways) (by kernel_rfl)) (fun _ _ _ _ _ => (pg_name (i := 12) sc_useful_ways.nd rfl (by first | exact Or.inl rfl | exact Or.inr rfl))) (fun _ _ _ _ _ => pts_nil) (fun _ _ _ _ _ => (pe_callV (k := 4) (i := 2) P w K mg base rfl rfl rfl rfl rfl (hr.mono (by decide)) rfl (by first | exact Or.inl rfl | exact Or.inr (Or.inl rfl) | exact Or.inr (Or.inr rfl)) (pa_cons (pv 12) pa_nil)))))
      (pss_cons (ps_set (i := 6) sc_useful_ways.nd rfl (Or.inr rfl) (pe_call G_leading (hr.mono (by decide)) (by rfl) T.g_leading T.F_leading.kp T.b_leading .nil pass0 (pa_cons (pv 4) (pa_cons (pv 5) pa_nil))))
      (pss_cons (ps_set (i := 7) sc_useful_ways.nd rfl (Or.inr rfl) pe_dnewK)
      (pss_cons (ps_for PassesOwn.never rfl (pi_range1 (by rfl) T.m_range (pa_cons (pe_callB (call_lenK K rfl) (by rfl) T.m_len (by decide +kernel) (pa_cons (pv 3) pa_nil)) pa_nil)) (pg_name (i := 8) sc_useful_ways.nd rfl (Or.inl rfl))
        (pss_one (ps_if (pt_val (pe_ix (ix_listK K rfl) (pv 6) (pv 8) (fun _ _ => rfl)))
            (pss_one (ps_dput (hu_of hr) (pv 7) (pv 8) (pe_callB call_lenD (by rfl) T.m_len (by decide +kernel) (pa_cons (pv 7) pa_nil)) rfl))
            pss_nil)))
      (pss_cons (ps_set (i := 9) sc_useful_ways.nd rfl (Or.inl rfl) (pe_callB (call_lenK K rfl) (by rfl) T.m_len (by decide +kernel) (pa_cons (pe_ix (ix_listK K rfl) (pv 4) pe_int (fun _ _ => rfl)) pa_nil)))
      (pss_cons (ps_lock (ps_setLc (i := 10) (own := [("column", 13)]) (g := gName 13) (tt := tYes) (by rfl) sc_useful_ways.nd rfl rfl (sw_true rfl rfl rfl (by decide +kernel)) (pi_range1 (by rfl) T.m_range (pa_cons (pv 9) pa_nil)) (blkOk_by (own := [("column", 13)]) (N := N_useful_ways) (by kernel_rfl)) (fun _ _ _ _ _ => (pg_name (i := 13) sc_useful_ways.nd rfl (by first | exact Or.inl rfl | exact Or.inr rfl))) (fun _ _ _ _ _ => pts_nil) (fun _ _ _ _ _ => (pe_lc (own := [("old", 8)]) (g := gName 8) (tt := tYes) (by rfl) sc_useful_ways.nd (pi_keys (pv 7)) (blkOk_by (own := [("old", 8)]) (N := N_useful_ways) (by kernel_rfl)) (fun _ _ _ _ _ => (pg_name (i := 8) sc_useful_ways.nd rfl (Or.inl rfl))) (fun _ _ _ _ _ => pts_nil) (fun _ _ _ _ _ => (pe_lc (own := [("to", 14)]) (g := gName 14) (by rfl) sc_useful_ways.nd (pi_listK K rfl (pe_ix (ix_listK K rfl) (pe_ix (ix_listK K rfl) (pv 4) (pv 8) (fun _ _ => rfl)) (pv 13) (fun _ _ => rfl))) (blkOk_by (own := [("to", 14)]) (N := N_useful_ways) (by kernel_rfl)) (fun _ _ _ _ _ => (pg_name (i := 14) sc_useful_ways.nd rfl (by first | exact Or.inl rfl | exact Or.inr rfl))) (fun _ _ _ _ _ => (pts_one (pt_val (pe_ix (ix_listK K rfl) (pv 6) (pv 14) (fun _ _ => rfl))))) (fun _ _ _ _ _ => (pe_dget (hu_of hr) (pv 7) (pv 14) (fun _ _ => rfl)))))))))
      (pss_cons (ps_setLc (i := 11) (own := [("old", 8)]) (g := gName 8) (by rfl) sc_useful_ways.nd rfl rfl (sw_true rfl rfl rfl (by decide +kernel)) (pi_range1 (by rfl) T.m_range (pa_cons (pe_callB (call_lenK K rfl) (by rfl) T.m_len (by decide +kernel) (pa_cons (pv 0) pa_nil)) pa_nil)) (blkOk_by (own := [("old", 8)]) (N := N_useful_ways) (by kernel_rfl)) (fun _ _ _ _ _ => (pg_name (i := 8) sc_useful_ways.nd rfl (Or.inl rfl))) (fun _ _ _ _ _ => (pts_one (pt_val (pe_ix (ix_listK K rfl) (pv 6) (pv 8) (fun _ _ => rfl))))) (fun _ _ _ _ _ => (pe_dget (hu_of hr) (pv 7) (pv 8) (fun _ _ => rfl))))
      (pss_one (ps_lock (ps_ret (pe_tup (pa_cons (pv 11) (pa_cons (pv 10) (pa_cons (pe_lc (own := [("old", 8)]) (g := gName 8) (tt := tYes) (by rfl) sc_useful_ways.nd (pi_keys (pv 7)) (blkOk_by (own := [("old", 8)]) (N := N_useful_ways) (by kernel_rfl)) (fun _ _ _ _ _ => (pg_name (i := 8) sc_useful_ways.nd rfl (Or.inl rfl))) (fun _ _ _ _ _ => pts_nil) (fun _ _ _ _ _ => (pe_ix (ix_listK K rfl) (pv 5) (pv 8) (fun _ _ => rfl)))) pa_nil))))))))))))))), ?_⟩
    have sl : ∀ m, m ≤ 1000000 → m < sizeLine := fun m hm => Nat.lt_of_le_of_lt hm (by decide)
    -- keys, rows
    refine ⟨.ref st, rfl, .ref f, rfl, st, f, F, spf, s0, n0, L, R, rfl, est, hf, caf, h0, by omega, hL5, hR, hmv, fun H1 p1 ka ta ras ks tbl s1 ep ek r3 wi hlen full => ⟨p1, [.ref ka, .ref ta], rfl, .inl (.inl ep), rfl, .ref ka, [.ref ta], rfl, .ref ta, [], rfl, rfl, ?_⟩⟩
    have hmany := wi.many
    have hks1 : 0 < ks.length := (List.getElem?_eq_some_iff.mp wi.one).1
    -- ended
    refine ⟨.ref ka, rfl, ka, rfl, ⟨_, .inl (.inl ek)⟩, fun ea nea => ?_⟩
    refine lc_it (walk_list (K := K) (a := ka) (xs := vi ks)) (fun i G => Same H1 G ∧ G ea = some (.lst (vb ((ks.take i).map fin)))) ⟨same_new nea, upd_same⟩ (fun i G _ hW => .inl (.inl (hW.1 _ _ ek))) (fun i x G1 G1' hi hW hY => ?_) (fun H2 hW => ?_)
    · obtain ⟨sG, eD⟩ := hW
      obtain ⟨rfl, hx⟩ := hY
      obtain ⟨s', hs', rfl⟩ := int_at hx
      rw [List.length_map] at hi
      have sn := wi.lt s' (List.mem_of_getElem? hs')
      have sH := s1.trans sG
      refine ⟨rfl, lcyes ⟨g, G, spg, rfl, sH _ _ hg, cag, .int (s' : Int), rfl, sH _ _ hg, hfin s' G1' _ sn sH fun G2 s2 => ⟨_, s2 _ _ eD, ?_, ?_, ?_⟩⟩⟩
      · rw [List.length_map, List.length_map, List.length_take]
        exact sl _ (by omega)
      · intro b o e
        rw [upd_ne (ne_of_none e nea)]
        exact s2 _ _ (sG _ _ e)
      · rw [upd_same, List.take_add_one, hs', List.map_append]
        exact congrArg (fun z => some (HO.lst z)) (vb_snoc _ _)
    obtain ⟨s2, eea⟩ := hW
    rw [List.length_map, List.take_of_length_le (Nat.le_refl _)] at eea
    -- leads
    refine ⟨.ref ta, rfl, .ref ea, rfl, ta, ea, ras, tbl, ks.map fin, rfl, r3.same s2, eea, by rw [List.length_map, hlen], by omega, (fun r hr => ⟨by rw [full r hr]; exact hL5, fun v hv => ?_⟩), fun H3 lp ls s3 nlp elp ll hls => ?_⟩
    · obtain ⟨j, hj⟩ := List.mem_iff_getElem?.mp hr
      obtain ⟨c, hc⟩ := List.mem_iff_getElem?.mp hv
      rw [hlen]
      exact (at_num wi hlen ⟨r, hj, hc⟩).2.1
    have ek3 := s3 _ _ (s2 _ _ ek)
    have r33 := r3.same (s2.trans s3)
    have eea3 := s3 _ _ eea
    have sm3 := (s1.trans s2).trans s3
    -- numbers
    refine fun nm nnm => ?_
    have fnm : H nm = none := sm3.free nnm
    have s4 := same_new (o := .dK []) nnm
    refine ⟨.ref ka, rfl, ka, _, rfl, .inl (.inl (.inl (s4 _ _ ek3))), _, rfl, by rw [List.length_map]; omega, by rw [List.length_map]; omega, ?_⟩
    refine for_range (lo := 0) (n := (((vi ks).length : Nat) : Int).toNat) (fun i σ G => (∀ b o, b ≠ nm → H3 b = some o → G b = some o) ∧ G nm = some (.dK (mk (osF ls i))) ∧ ∃ y8, σ = [some (.ref st), some (.ref f), some (.ref g), some (.ref ka), some (.ref ta), some (.ref ea), some (.ref lp), some (.ref nm), y8, none, none, none, none, none, none]) ⟨fun b o n e => s4 _ _ e, upd_same, none, rfl⟩ (fun i σ G1 hi hW => ?_) (fun σ H5 hW => ?_)
    · obtain ⟨fr, en, y8, rfl⟩ := hW
      rw [List.length_map, Int.toNat_natCast] at hi
      have hli := List.getElem?_eq_getElem (l := ls) (i := i) (by omega)
      generalize ls[i]'(by omega) = b at hli
      have e0 : (0 : Int) + (i : Int) = (i : Int) := Int.zero_add _
      have lpn : lp ≠ nm := ne_of_none elp nnm
      refine ⟨.ref lp, rfl, .int (0 + (i : Int)), rfl, lp, _, 0 + (i : Int), .bl b, rfl, rfl, .inl (.inl (fr _ _ lpn elp)), by rw [e0]; exact atI_nat (vb_get hli), b, rfl, ?_⟩
      cases b with
      | true =>
        have nin : i ∉ osF ls i := fun h => Nat.lt_irrefl _ (osF_mem.mp h).1
        have lo : (osF ls i).length ≤ i := by
          have := List.length_filter_le (fun j => decide (ls[j]? = some true)) (List.range i)
          rw [List.length_range] at this
          exact this
        have ep : putK (mk (osF ls i)) (Sum.inl (0 + (i : Int)) : Key) (V.int ((mk (osF ls i)).length : Int)) = mk (osF ls (i + 1)) := by
          unfold putK
          rw [e0, valV_any, valV_mk, if_neg nin, if_neg (by decide), osF_succ, if_pos hli, mk_snoc, mk_len]
        refine iteT ⟨.ref nm, rfl, nm, _, rfl, en, .ref nm, rfl, .int (0 + (i : Int)), rfl, nm, _, rfl, DPut.k (k := Sum.inl (0 + (i : Int))) en (by rw [mk_len]; exact sl _ (by omega)), ?_⟩
        rw [ep]
        exact ⟨fun b o n e => by rw [upd_ne n]; exact fr b o n e, upd_same, _, rfl⟩
      | false =>
        refine iteF ⟨fr, ?_, _, rfl⟩
        rw [osF_succ, if_neg (by rw [hli]; simp)]
        exact en
    obtain ⟨fr5, en5, y8, rfl⟩ := hW
    rw [List.length_map, Int.toNat_natCast] at en5
    generalize hos : osF ls ks.length = os at en5
    have omem : ∀ j, j ∈ os ↔ ls[j]? = some true := fun j => by
      rw [← hos, osF_mem]
      exact ⟨fun h => h.2, fun h => ⟨by have := (List.getElem?_eq_some_iff.mp h).1; omega, h⟩⟩
    have ond : os.Nodup := hos ▸ osF_nd ls _
    have olt : ∀ j ∈ os, j < ks.length := fun j h => by
      rw [← hos] at h
      exact (osF_mem.mp h).1
    have olen : os.length ≤ ks.length := by
      have := len_le_of_sub ond fun x hx => List.mem_range.mpr (olt x hx)
      rwa [List.length_range] at this
    have ne3 : ∀ {b : Addr} {o : HO}, H3 b = some o → b ≠ nm := fun e => ne_of_none e nnm
    have sm5 : Same H H5 := fun b o e => fr5 b o (ne_of_none e fnm) (sm3 _ _ e)
    have ek5 := fr5 _ _ (ne3 ek3) ek3
    have elp5 := fr5 _ _ (ne3 elp) elp
    have eea5 := fr5 _ _ (ne3 eea3) eea3
    have est5 := sm5 _ _ est
    have r35 : R3At H5 ta ras tbl := ⟨fr5 _ _ (ne3 r33.1) r33.1, r33.2.1, fun i ra row x y => by
      obtain ⟨gas, a, b, c⟩ := r33.2.2 i ra row x y
      exact ⟨gas, fr5 _ _ (ne3 a) a, b, fun k ga v e1 e2 => fr5 _ _ (ne3 (c k ga v e1 e2)) (c k ga v e1 e2)⟩⟩
    clear fr5
    have hrl := r35.2.1
    -- width
    have ht0 := List.getElem?_eq_getElem (l := tbl) (i := 0) (by omega)
    have hr0 := List.getElem?_eq_getElem (l := ras) (i := 0) (by omega)
    have hl0 := full _ (List.getElem_mem (l := tbl) (n := 0) (by omega))
    generalize tbl[0]'(by omega) = row0 at ht0 hl0
    generalize ras[0]'(by omega) = ra0 at hr0
    obtain ⟨gas0, eg0, lg0, _⟩ := r35.2.2 0 ra0 row0 hr0 ht0
    have lw : (vr gas0).length = L := by rw [List.length_map, lg0, hl0]
    refine ⟨.ref ta, rfl, ta, _, 0, .ref ra0, rfl, rfl, .inl (.inl r35.1), atI_nat (j := 0) (vr_get hr0), ra0, _, rfl, .inl (.inl (.inl eg0)), ?_⟩
    -- ways
    refine ⟨nm, .dK (mk os), en5, trivial, fun od => ?_⟩
    have nmk : ∀ {b : Addr} {xs : List V}, H5 b = some (.lst xs) → b ≠ nm := fun e => ne_of e en5 (by intro z; cases z)
    have lk : ∀ b xs, H5 b = some (.lst xs) → (upd H5 nm (.frz od (.dK (mk os)))) b = some (.lst xs) := fun b xs e => by
      rw [upd_ne (nmk e)]
      exact e
    have enL : (upd H5 nm (.frz od (.dK (mk os)))) nm = some (.frz od (.dK (mk os))) := upd_same
    have smL : Same H (upd H5 nm (.frz od (.dK (mk os)))) := fun b o e => by
      rw [upd_ne (ne_of_none e fnm)]
      exact sm5 _ _ e
    have elpL := lk _ _ elp5
    have eeaL := lk _ _ eea5
    have r3L : R3At (upd H5 nm (.frz od (.dK (mk os)))) ta ras tbl := ⟨lk _ _ r35.1, r35.2.1, fun i ra row x y => by
      obtain ⟨gas, a, b, c⟩ := r35.2.2 i ra row x y
      exact ⟨gas, lk _ _ a, b, fun k ga v e1 e2 => lk _ _ (c k ga v e1 e2)⟩⟩
    have ekL := lk _ _ ek5
    have estL := lk _ _ est5
    generalize upd H5 nm (.frz od (.dK (mk os))) = HL at enL smL elpL eeaL r3L ekL estL
    refine ⟨_, rfl, _, rfl, by rw [lw]; omega, by rw [lw]; omega, fun wa nwa => ?_⟩
    rw [lw]
    let cell : Nat → Nat → List Nat := fun j c => if ls[(tbl.getD j []).getD c 0]? = some true then [os.idxOf ((tbl.getD j []).getD c 0)] else []
    refine lc_range (lo := 0) (n := ((L : Nat) : Int).toNat) (fun c G => Same HL G ∧ ∃ cas : List Addr, G wa = some (.lst (vr cas)) ∧ cas.length = c ∧ ∀ (c : Nat) (ca : Addr), cas[c]? = some ca → ca ≠ wa ∧ ∃ xs : List Addr, (∀ x ∈ xs, x ≠ wa) ∧ G ca = some (.lst (vr xs)) ∧ xs.length = os.length ∧ ∀ (i : Nat) (x : Addr) (j : Nat), xs[i]? = some x → os[i]? = some j → G x = some (.lst (vi (cell j c)))) ⟨same_new nwa, [], upd_same, rfl, fun c ca e => by simp at e⟩ (fun c G1 hc hW => ?_) (fun H6 hW => ?_)
    · obtain ⟨sG, cas, ew, lc, cc⟩ := hW
      rw [Int.toNat_natCast] at hc
      have e0c : (0 : Int) + (c : Int) = (c : Int) := Int.zero_add _
      refine ⟨rfl, lcyes ?_⟩
      refine ⟨.ref nm, rfl, nm, od, rfl, .inl ⟨mk os, sG _ _ enL, fun D2 nD2 => ?_⟩⟩
      have waD : wa ≠ D2 := ne_of_none ew nD2
      refine lc_it (walk_keys (d := nm) (o := od) (kvs := mk os)) (fun k G => Same G1 G ∧ ∃ xs : List Addr, (∀ x ∈ xs, x ≠ wa ∧ x ≠ D2) ∧ G D2 = some (.lst (vr xs)) ∧ xs.length = k ∧ ∀ (i : Nat) (x : Addr) (j : Nat), xs[i]? = some x → os[i]? = some j → G x = some (.lst (vi (cell j c)))) ⟨same_new nD2, [], (fun _ h => nomatch h), upd_same, rfl, fun i x j e => by simp at e⟩ (fun k G _ hW => hW.1 _ _ (sG _ _ enL)) (fun k x G2 G2' hk hW hY => ?_) (fun G2 hW => ?_)
      · obtain ⟨s2', xs, nx, eD2, lx, cx⟩ := hW
        obtain ⟨rfl, kk, kv, hkv, rfl⟩ := hY
        obtain ⟨j, hj, rfl, _⟩ := mk_at hkv
        rw [mk_len] at hk
        have hjn := olt j (List.mem_of_getElem? hj)
        have sLG := sG.trans s2'
        have htj := List.getElem?_eq_getElem (l := tbl) (i := j) (by omega)
        have hrj := List.getElem?_eq_getElem (l := ras) (i := j) (by omega)
        have hlj := full _ (List.getElem_mem (l := tbl) (n := j) (by omega))
        have gdj : tbl.getD j [] = tbl[j]'(by omega) := by rw [List.getD_eq_getElem?_getD, htj]; rfl
        generalize tbl[j]'(by omega) = row at htj hlj gdj
        generalize ras[j]'(by omega) = ra at hrj
        obtain ⟨gas, eg, lg, cg⟩ := r3L.2.2 j ra row hrj htj
        have hgc := List.getElem?_eq_getElem (l := gas) (i := c) (by omega)
        have hvc := List.getElem?_eq_getElem (l := row) (i := c) (by omega)
        have gdc : row.getD c 0 = row[c]'(by omega) := by rw [List.getD_eq_getElem?_getD, hvc]; rfl
        generalize gas[c]'(by omega) = ga at hgc
        generalize row[c]'(by omega) = v at hvc gdc
        have ega := cg c ga v hgc hvc
        have hvn := (at_num wi hlen ⟨row, htj, hvc⟩).2.1
        have hcell : cell j c = if ls[v]? = some true then [os.idxOf v] else [] := by
          show (if ls[(tbl.getD j []).getD c 0]? = some true then [os.idxOf ((tbl.getD j []).getD c 0)] else []) = _
          rw [gdj, gdc]
        refine ⟨rfl, lcyes ?_⟩
        refine ⟨.ref ta, rfl, .int (j : Int), rfl, ta, _, (j : Int), .ref ra, rfl, rfl, .inl (.inl (sLG _ _ r3L.1)), atI_nat (vr_get hrj), .int (0 + (c : Int)), rfl, ra, _, 0 + (c : Int), .ref ga, rfl, rfl, .inl (.inl (sLG _ _ eg)), by rw [e0c]; exact atI_nat (vr_get hgc), ga, rfl, ⟨_, .inl (.inl (sLG _ _ ega))⟩, fun D3 nD3 => ?_⟩
        have s3' := same_new (o := .lst []) nD3
        refine lc_it (walk_list (K := K) (a := ga) (xs := vi [v])) (fun i G => G = upd G2' D3 (.lst (vi (if i = 0 then [] else cell j c)))) rfl (fun i G _ hW => by rw [hW]; exact .inl (.inl (same_new nD3 _ _ (sLG _ _ ega)))) (fun i x G3 G3' hi hW hY => ?_) (fun G3 hW => ?_)
        · subst hW
          obtain ⟨rfl, hx⟩ := hY
          have hi : i < 1 := hi
          obtain rfl : i = 0 := by omega
          have hx : some (V.int (v : Int)) = some x := hx
          cases hx
          rw [if_pos rfl]
          have hlv := List.getElem?_eq_getElem (l := ls) (i := v) (by omega)
          generalize ls[v]'(by omega) = b at hlv
          refine ⟨rfl, .ref lp, rfl, .int (v : Int), rfl, lp, _, (v : Int), .bl b, rfl, rfl, .inl (.inl (s3' _ _ (sLG _ _ elpL))), atI_nat (vb_get hlv), b, rfl, ?_⟩
          cases b with
          | true =>
            have hvo : v ∈ os := (omem v).mpr hlv
            refine iteT ⟨.ref nm, rfl, .int (v : Int), rfl, nm, .int (os.idxOf v : Nat), rfl, ?_, _, upd_same, by show 0 < sizeLine; decide, ?_⟩
            · refine .inl ⟨mk os, Sum.inl (v : Int), .inr ⟨od, s3' _ _ (sLG _ _ enL)⟩, rfl, ?_⟩
              rw [valV_mk, if_pos hvo]
            · rw [upd_upd, if_neg (by decide), hcell, if_pos hlv]
              rfl
          | false =>
            refine iteF ?_
            rw [if_neg (show ¬ 0 + 1 = 0 by decide), hcell, if_neg (by rw [hlv]; simp)]
        · have hW : G3 = upd G2' D3 (.lst (vi (if 1 = 0 then [] else cell j c))) := hW
          rw [if_neg (by decide)] at hW
          subst hW
          have s4' := same_new (o := .lst (vi (cell j c))) nD3
          have eD23 : (upd G2' D3 (.lst (vi (cell j c)))) D2 = some (.lst (vr xs)) := s4' _ _ eD2
          have D23 : D2 ≠ D3 := ne_of_none eD2 nD3
          have wa3 : wa ≠ D3 := ne_of_none (s2' _ _ ew) nD3
          refine ⟨vr xs, eD23, by rw [List.length_map]; exact sl _ (by omega), ?_, xs ++ [D3], mem_snoc nx ⟨wa3.symm, D23.symm⟩, by rw [upd_same, vr_snoc], by rw [List.length_append, lx]; rfl, fun i x j' e1 e2 => ?_⟩
          · intro b o e
            rw [upd_ne (ne_of_none e nD2)]
            exact s4' _ _ (s2' _ _ e)
          · by_cases hi : i < xs.length
            · rw [List.getElem?_append_left hi] at e1
              rw [upd_ne (nx x (List.mem_of_getElem? e1)).2]
              exact s4' _ _ (cx i x j' e1 e2)
            · rw [List.getElem?_append_right (by omega)] at e1
              have h0 : i - xs.length = 0 := by
                cases q : i - xs.length with
                | zero => rfl
                | succ k =>
                  rw [q] at e1
                  simp at e1
              rw [h0] at e1
              cases e1
              have : i = k := by omega
              subst this
              rw [hj] at e2
              cases e2
              rw [upd_ne D23.symm, upd_same]
      · obtain ⟨s2', xs, nx, eD2, lx, cx⟩ := hW
        rw [mk_len] at lx
        have ew2 := s2' _ _ ew
        refine ⟨vr cas, ew2, by rw [List.length_map]; exact sl _ (by omega), ?_, cas ++ [D2], by rw [upd_same, vr_snoc], by rw [List.length_append, lc]; rfl, fun c' ca e => ?_⟩
        · intro b o e
          rw [upd_ne (ne_of_none e nwa)]
          exact s2' _ _ (sG _ _ e)
        · by_cases hi : c' < cas.length
          · rw [List.getElem?_append_left hi] at e
            obtain ⟨n1, xs', n2, e1, l1, c1⟩ := cc c' ca e
            exact ⟨n1, xs', n2, by rw [upd_ne n1]; exact s2' _ _ e1, l1, fun i x j x1 x2 => by rw [upd_ne (n2 x (List.mem_of_getElem? x1))]; exact s2' _ _ (c1 i x j x1 x2)⟩
          · rw [List.getElem?_append_right (by omega)] at e
            have h0 : c' - cas.length = 0 := by
              cases q : c' - cas.length with
              | zero => rfl
              | succ k =>
                rw [q] at e
                simp at e
            rw [h0] at e
            cases e
            have : c' = c := by omega
            subst this
            exact ⟨waD.symm, xs, fun x hx => (nx x hx).1, by rw [upd_ne waD.symm]; exact eD2, lx, fun i x j x1 x2 => by rw [upd_ne (nx x (List.mem_of_getElem? x1)).1]; exact cx i x j x1 x2⟩
    · obtain ⟨sL6, cas, ew, lc, cc⟩ := hW
      rw [Int.toNat_natCast] at lc
      refine ⟨sL6 _ _ enL, ?_⟩
      have en6 := sL6 _ _ enL
      have ul : ∀ b xs, H6 b = some (.lst xs) → (upd H6 nm (.dK (mk os))) b = some (.lst xs) := fun b xs e => by
        rw [upd_ne (ne_of e en6 (by intro z; cases z))]
        exact e
      have sm7 : Same H (upd H6 nm (.dK (mk os))) := fun b o e => by
        rw [upd_ne (ne_of_none e fnm)]
        exact sL6 _ _ (smL _ _ e)
      have en7 : (upd H6 nm (.dK (mk os))) nm = some (.dK (mk os)) := upd_same
      have ew7 := ul _ _ ew
      have cc7 : ∀ (c : Nat) (ca : Addr), cas[c]? = some ca → ∃ xs : List Addr, (upd H6 nm (.dK (mk os))) ca = some (.lst (vr xs)) ∧ xs.length = os.length ∧ ∀ (i : Nat) (x : Addr) (j : Nat), xs[i]? = some x → os[i]? = some j → (upd H6 nm (.dK (mk os))) x = some (.lst (vi (cell j c))) := fun c ca e => by
        obtain ⟨_, xs, _, e1, l1, c1⟩ := cc c ca e
        exact ⟨xs, ul _ _ e1, l1, fun i x j x1 x2 => ul _ _ (c1 i x j x1 x2)⟩
      have elp7 := ul _ _ (sL6 _ _ elpL)
      have eea7 := ul _ _ (sL6 _ _ eeaL)
      have est7 := ul _ _ (sL6 _ _ estL)
      generalize upd H6 nm (.dK (mk os)) = H7 at sm7 en7 ew7 cc7 elp7 eea7 est7
      -- firsts
      refine ⟨.ref st, rfl, st, _, rfl, .inl (.inl (.inl est7)), _, rfl, by show _ ≤ (1 : Int); decide, by show (1 : Int) < _; decide, fun fa nfa => ?_⟩
      have sfa := same_new (o := .lst []) nfa
      have hl_0 := List.getElem?_eq_getElem (l := ls) (i := 0) (by omega)
      generalize ls[0]'(by omega) = b0 at hl_0
      refine lc_range (lo := 0) (n := 1) (fun i G => G = upd H7 fa (.lst (vi (if i = 0 then [] else if b0 = true then [os.idxOf 0] else [])))) rfl (fun i G1 hi hW => ?_) (fun H8 hW => ?_)
      · subst hW
        obtain rfl : i = 0 := by omega
        rw [if_pos rfl]
        refine ⟨rfl, .ref lp, rfl, .int (0 + ((0 : Nat) : Int)), rfl, lp, _, 0 + ((0 : Nat) : Int), .bl b0, rfl, rfl, .inl (.inl (sfa _ _ elp7)), by rw [Int.zero_add]; exact atI_nat (vb_get hl_0), b0, rfl, ?_⟩
        cases b0 with
        | true =>
          refine iteT ⟨.ref nm, rfl, .int (0 + ((0 : Nat) : Int)), rfl, nm, .int (os.idxOf 0 : Nat), rfl, ?_, _, upd_same, by show 0 < sizeLine; decide, ?_⟩
          · have := DGet.k (k := Sum.inl ((0 : Nat) : Int)) (sfa _ _ en7)
            rw [valV_mk, if_pos ((omem 0).mpr hl_0)] at this
            exact this
          · rw [upd_upd]
            rfl
        | false => exact iteF rfl
      have hW : H8 = upd H7 fa (.lst (vi (if 1 = 0 then [] else if b0 = true then [os.idxOf 0] else []))) := hW
      rw [if_neg (by decide)] at hW
      have s78 : Same H7 H8 := by rw [hW]; exact same_new nfa
      have efa : H8 fa = some (.lst (vi (if b0 = true then [os.idxOf 0] else []))) := by rw [hW]; exact upd_same
      -- the tuple
      have en8 := s78 _ _ en7
      refine ⟨nm, .dK (mk os), en8, trivial, fun od2 => ?_⟩
      have lk8 : ∀ b xs, H8 b = some (.lst xs) → (upd H8 nm (.frz od2 (.dK (mk os)))) b = some (.lst xs) := fun b xs e => by
        rw [upd_ne (ne_of e en8 (by intro z; cases z))]
        exact e
      have en9 : (upd H8 nm (.frz od2 (.dK (mk os)))) nm = some (.frz od2 (.dK (mk os))) := upd_same
      have sm9 : Same H (upd H8 nm (.frz od2 (.dK (mk os)))) := fun b o e => by
        rw [upd_ne (ne_of_none e fnm)]
        exact s78 _ _ (sm7 _ _ e)
      have efa9 := lk8 _ _ efa
      have ew9 := lk8 _ _ (s78 _ _ ew7)
      have eea9 := lk8 _ _ (s78 _ _ eea7)
      have cc9 : ∀ (c : Nat) (ca : Addr), cas[c]? = some ca → ∃ xs : List Addr, (upd H8 nm (.frz od2 (.dK (mk os)))) ca = some (.lst (vr xs)) ∧ xs.length = os.length ∧ ∀ (i : Nat) (x : Addr) (j : Nat), xs[i]? = some x → os[i]? = some j → (upd H8 nm (.frz od2 (.dK (mk os)))) x = some (.lst (vi (cell j c))) := fun c ca e => by
        obtain ⟨xs, e1, l1, c1⟩ := cc7 c ca e
        exact ⟨xs, lk8 _ _ (s78 _ _ e1), l1, fun i x j x1 x2 => lk8 _ _ (s78 _ _ (c1 i x j x1 x2))⟩
      generalize upd H8 nm (.frz od2 (.dK (mk os))) = H9 at en9 sm9 efa9 ew9 eea9 cc9
      refine ⟨.ref fa, rfl, .ref wa, rfl, .ref nm, rfl, nm, od2, rfl, .inl ⟨mk os, en9, fun D nD => ?_⟩⟩
      refine lc_it (walk_keys (d := nm) (o := od2) (kvs := mk os)) (fun i G => Same H9 G ∧ G D = some (.lst (vb ((os.take i).map fun j => fin (ks.getD j 0))))) ⟨same_new nD, upd_same⟩ (fun i G _ hW => hW.1 _ _ en9) (fun i x G1 G1' hi hW hY => ?_) (fun HA hW => ?_)
      · obtain ⟨sG, eD⟩ := hW
        obtain ⟨rfl, kk, kv, hkv, rfl⟩ := hY
        obtain ⟨j, hj, rfl, _⟩ := mk_at hkv
        rw [mk_len] at hi
        have hjn := olt j (List.mem_of_getElem? hj)
        have hbj : (ks.map fin)[j]? = some (fin (ks.getD j 0)) := by rw [List.getElem?_map, num_at hjn]; rfl
        refine ⟨rfl, lcyes ⟨.ref ea, rfl, .int (j : Int), rfl, ea, _, (j : Int), .bl (fin (ks.getD j 0)), rfl, rfl, .inl (.inl (sG _ _ eea9)), atI_nat (vb_get hbj), _, eD, ?_, ?_, ?_⟩⟩
        · rw [List.length_map, List.length_map, List.length_take]
          exact sl _ (by omega)
        · intro b o e
          rw [upd_ne (ne_of_none e nD)]
          exact sG _ _ e
        · rw [upd_same, List.take_add_one, hj, List.map_append]
          exact congrArg (fun z => some (HO.lst z)) (vb_snoc _ _)
      obtain ⟨s9A, eD⟩ := hW
      rw [mk_len, List.take_of_length_le (Nat.le_refl _)] at eD
      refine ⟨by show 3 ≤ sizeLine; decide, fun p np => ?_⟩
      have sAB := same_new (o := .tup [.ref fa, .ref wa, .ref D]) np
      have enB := sAB _ _ (s9A _ _ en9)
      refine ⟨enB, ?_⟩
      have ulB : ∀ b xs, HA b = some (.lst xs) → (upd (upd HA p (.tup [.ref fa, .ref wa, .ref D])) nm (.dK (mk os))) b = some (.lst xs) := fun b xs e => by
        rw [upd_ne (ne_of e (s9A _ _ en9) (by intro z; cases z))]
        exact sAB _ _ e
      have pn : p ≠ nm := fun e => by
        rw [e, s9A _ _ en9] at np
        cases np
      have leadS : ∀ {j : Nat}, j < ks.length → (j ∈ os ↔ LdS R fin (ks.getD j 0)) := fun hj => by
        rw [omem, hls, lead_iff wi hlen full hR hj]
      refine q _ p fa wa D (os.map fun j => ks.getD j 0) ?_ ?_ ?_ ?_ ?_ ?_
      · intro b o e
        rw [upd_ne (ne_of_none e fnm)]
        exact sAB _ _ (s9A _ _ (sm9 _ _ e))
      · rw [upd_ne pn, upd_same]
      · have i0 := idx_map wi.nd olt hks1
        have e0 : ks.getD 0 0 = s0 := by
          have := num_at hks1
          rw [wi.one] at this
          exact (Option.some.inj this).symm
        rw [e0] at i0
        rw [ulB _ _ (s9A _ _ efa9), i0.1]
        congr 3
        by_cases hb : b0 = true
        · rw [if_pos hb, if_pos (i0.2.mpr ((omem 0).mpr (by rw [hl_0, hb])))]
        · rw [if_neg hb, if_neg fun h => hb (by
            have := (omem 0).mp (i0.2.mp h)
            rw [hl_0] at this
            exact Option.some.inj this)]
      · refine ⟨cas, ulB _ _ (s9A _ _ ew9), lc, fun c ca e => ?_⟩
        obtain ⟨xs, e1, l1, c1⟩ := cc9 c ca e
        refine ⟨xs, ulB _ _ (s9A _ _ e1), by rw [List.length_map]; exact l1, fun i x s t x1 x2 x3 => ?_⟩
        rw [List.getElem?_map] at x2
        obtain ⟨j, hj, rfl⟩ := Option.map_eq_some_iff.mp x2
        have hjn := olt j (List.mem_of_getElem? hj)
        have htj := List.getElem?_eq_getElem (l := tbl) (i := j) (by omega)
        have hlj := full _ (List.getElem_mem (l := tbl) (n := j) (by omega))
        have gdj : tbl.getD j [] = tbl[j]'(by omega) := by rw [List.getD_eq_getElem?_getD, htj]; rfl
        generalize tbl[j]'(by omega) = row at htj hlj gdj
        have hcl : c < L := by
          have := (List.getElem?_eq_some_iff.mp e).1
          omega
        have hvc := List.getElem?_eq_getElem (l := row) (i := c) (by omega)
        have gdc : row.getD c 0 = row[c]'(by omega) := by rw [List.getD_eq_getElem?_getD, hvc]; rfl
        generalize row[c]'(by omega) = v at hvc gdc
        obtain ⟨_, hvn, hRc⟩ := at_num wi hlen ⟨row, htj, hvc⟩
        rw [x3] at hRc
        cases hRc
        rw [ulB _ _ (s9A _ _ (c1 i x j x1 hj))]
        have hcell : cell j c = if ls[v]? = some true then [os.idxOf v] else [] := by
          show (if ls[(tbl.getD j []).getD c 0]? = some true then [os.idxOf ((tbl.getD j []).getD c 0)] else []) = _
          rw [gdj, gdc]
        obtain ⟨i1, i2⟩ := idx_map wi.nd olt hvn
        rw [hcell, i1]
        congr 3
        by_cases hb : ls[v]? = some true
        · rw [if_pos hb, if_pos (i2.mpr ((omem v).mpr hb))]
        · rw [if_neg hb, if_neg fun h => hb ((omem v).mp (i2.mp h))]
      · rw [ulB _ _ eD, List.map_map]
        rfl
      · refine ⟨List.pairwise_map.mpr (ond.imp_of_mem fun {a b} ha hb ne e => ne (num_inj wi.nd (olt a ha) (olt b hb) e)), fun s hs => ?_, fun s => ?_⟩
        · obtain ⟨j, hj, rfl⟩ := List.mem_map.mp hs
          exact wi.lt _ (List.mem_of_getElem? (num_at (olt j hj)))
        · rw [← rch_mem wi hlen full hR]
          constructor
          · intro h
            obtain ⟨j, hj, rfl⟩ := List.mem_map.mp h
            exact ⟨List.mem_of_getElem? (num_at (olt j hj)), (leadS (olt j hj)).mp hj⟩
          · rintro ⟨h1, h2⟩
            obtain ⟨j, hj⟩ := List.mem_iff_getElem?.mp h1
            have hjl := (List.getElem?_eq_some_iff.mp hj).1
            rw [num_at hjl] at hj
            cases hj
            exact List.mem_map.mpr ⟨j, (leadS hjl).mpr h2, rfl⟩
end
end LH

namespace LH
open PySem PySem.Spec PyProof.Rows L2 NdefX LamX
/-! ### ways_of -/
abbrev st_movesY : Stmt := (defBody s_ways_of).getD 2 (.Pass ⟨0, 0, 0, 0⟩)
abbrev st_is_endY : Stmt := (defBody s_ways_of).getD 3 (.Pass ⟨0, 0, 0, 0⟩)
abbrev q_movesY : Str := (("ways_of" : Str) ++ ".<locals>.") ++ "moves"
abbrev q_is_endY : Str := (("ways_of" : Str) ++ ".<locals>.") ++ "is_end"
abbrev nf_movesY (cl : List (Str × Addr)) (c : Addr) : NF := NF.of st_movesY "moves" q_movesY cl c
abbrev nf_is_endY (cl : List (Str × Addr)) (c : Addr) : NF := NF.of st_is_endY "is_end" q_is_endY cl c
abbrev N_movesY : List Str := ["state", "table", "target"]
theorem nd_movesY : N_movesY.Nodup := by decide +kernel
theorem free_movesY : ∀ y ∈ (C8.fnScope st_movesY).names, y.2 = .free → (defScope s_ways_of).names.lookup y.1 = some .cell ∨ (defScope s_ways_of).names.lookup y.1 = some .free := by decide +kernel
theorem free_is_endY : ∀ y ∈ (C8.fnScope st_is_endY).names, y.2 = .free → (defScope s_ways_of).names.lookup y.1 = some .cell ∨ (defScope s_ways_of).names.lookup y.1 = some .free := by decide +kernel
def nm_ways_of : Nat → Nat → Str := fun l _ => if l = lineOf st_movesY then q_movesY else q_is_endY
abbrev xY (P : Program) (w : World) (K : PySem.W.Frag) (mg : Str → Option Value) (base : Heap) (f c : Addr) (A : Around) (outer : List Env) (s : Shared) (H : Hp) (E : XK) : Cx := (cxOf CX0 P w K mg base N_ways_of "ways_of" (defScope s_ways_of) f (.ref c) A outer s H E).nox
section
variable {P : Program} {w : World} {K : PySem.W.Frag} {mg : Str → Option Value} {base : Heap}
def sp_movesY : List (Option V) → Sp := fun ws vs H Q _ => ∃ (t a : Addr) (as : List Addr) (s : Nat) (row : List Nat), ws = [some (.ref t)] ∧ vs = [.int (s : Int)] ∧ H t = some (.tup (vr as)) ∧ as[s]? = some a ∧ H a = some (.tup (vi row)) ∧ row.length ≤ 1000 ∧
  ∀ H' b (gas : List Addr), Same H H' → H b = none → H' b = some (.lst (vr gas)) → gas.length = row.length → (∀ ga ∈ gas, H ga = none) → (∀ (c : Nat) (ga : Addr) (t : Nat), gas[c]? = some ga → row[c]? = some t → H' ga = some (.lst (vi [t]))) → Q (.ref b) H'
theorem ok_movesY {f c : Addr} {cl : List (Str × Addr)} : NOk P w K mg base CX0 1 f (nf_movesY cl c) ["state"] ["table"] sp_movesY := by
  refine nok_of (N := N_movesY) (nscope_by (by kernel_rfl)) (fun doc pm ctv us hl => match us, hl with | [_], _ => rfl) (fun ws vs H Q E h => ?_) (fun A outer s H vs ws Q E hr hf hc hl h => ?_)
  · obtain ⟨t, a, as, s', row, rfl, rfl, _⟩ := h
    rfl
  · obtain ⟨t, a, as, s', row, rfl, rfl, ht, ha, er, hl2, q⟩ := h
    refine ⟨_, PSs.nox (pss_one (ps_ret (pe_lc (own := [("target", 2)]) (g := gName 2) (tt := tYes) (by rfl) nd_movesY (pi_tupK K rfl (pe_ix (ix_tupK K rfl) (pv 1) (pv 0) (fun _ _ => rfl))) (blkOk_by (own := [("target", 2)]) (N := N_movesY) (by kernel_rfl)) (fun _ _ _ _ _ => (pg_name (i := 2) nd_movesY rfl (Or.inl rfl))) (fun _ _ _ _ _ => pts_nil) (fun _ _ _ _ _ => (pe_lst (pa_cons (pv 2) pa_nil)))))), ?_⟩
    refine ⟨.ref t, rfl, .int (s' : Int), rfl, t, _, (s' : Int), .ref a, rfl, rfl, .inl (.inl ht), atI_nat (vr_get ha), a, rfl, ⟨_, .inl (.inl er)⟩, fun D nD => ?_⟩
    refine lc_it (walk_tup (K := K) (a := a) (xs := vi row)) (fun i G => Same H G ∧ ∃ gas : List Addr, (∀ ga ∈ gas, ga ≠ D ∧ H ga = none) ∧ G D = some (.lst (vr gas)) ∧ gas.length = i ∧ ∀ (c : Nat) (ga : Addr) (t : Nat), gas[c]? = some ga → row[c]? = some t → G ga = some (.lst (vi [t]))) ⟨same_new nD, [], (fun _ h => nomatch h), upd_same, rfl, fun c ga t e => by simp at e⟩ (fun i G _ hW => .inl (.inl (hW.1 _ _ er))) (fun i x G G' hi hW hY => ?_) (fun G hW => ?_)
    · obtain ⟨sG, gas, ng, eD, lg, cg⟩ := hW
      obtain ⟨rfl, hx⟩ := hY
      obtain ⟨u, hu, rfl⟩ := int_at hx
      rw [List.length_map] at hi
      refine ⟨rfl, lcyes ⟨.int (u : Int), rfl, by show 1 ≤ sizeLine; decide, fun g ng2 => ?_⟩⟩
      have s2 := same_new (o := .lst [.int (u : Int)]) ng2
      have Dg : D ≠ g := ne_of_none eD ng2
      have fg : H g = none := sG.free ng2
      refine ⟨vr gas, s2 _ _ eD, ?_, ?_, gas ++ [g], mem_snoc ng ⟨Dg.symm, fg⟩, by rw [upd_same, vr_snoc], by rw [List.length_append, lg]; rfl, fun c ga t' e1 e2 => ?_⟩
      · rw [List.length_map, lg]
        exact Nat.lt_of_le_of_lt (show i ≤ 1000 by omega) (by decide)
      · intro b o eb
        rw [upd_ne (ne_of_none eb nD)]
        exact s2 _ _ (sG _ _ eb)
      · by_cases hc : c < gas.length
        · rw [List.getElem?_append_left hc] at e1
          rw [upd_ne (ng ga (List.mem_of_getElem? e1)).1]
          exact s2 _ _ (cg c ga t' e1 e2)
        · have hc2 := (List.getElem?_eq_some_iff.mp e1).1
          rw [List.length_append] at hc2
          have hc2 : c < gas.length + 1 := hc2
          obtain rfl : c = gas.length := by omega
          rw [List.getElem?_append_right (Nat.le_refl _), Nat.sub_self] at e1
          cases e1
          rw [lg, hu] at e2
          cases e2
          rw [upd_ne Dg.symm, upd_same]
          rfl
    · obtain ⟨sG, gas, ng, eD, lg, cg⟩ := hW
      rw [List.length_map] at lg
      exact q G D gas sG nD eD lg (fun ga h => (ng ga h).2) cg
def sp_is_endY : List (Option V) → Sp := fun ws vs H Q _ => ∃ (mk : Addr) (bs : List Bool) (b : Bool) (s : Nat), ws = [some (.ref mk)] ∧ vs = [.int (s : Int)] ∧ H mk = some (.lst (bs.map V.bl)) ∧ bs[s]? = some b ∧ Q (.bl b) H
theorem ok_is_endY {f c : Addr} {cl : List (Str × Addr)} : NOk P w K mg base CX0 1 f (nf_is_endY cl c) ["state"] ["marks"] sp_is_endY := by
  refine nok_of (N := ["state", "marks"]) (nscope_by (by kernel_rfl)) (fun doc pm ctv us hl => match us, hl with | [_], _ => rfl) (fun ws vs H Q E h => ?_) (fun A outer s H vs ws Q E hr hf hc hl h => ?_)
  · obtain ⟨mk, bs, b, s', rfl, rfl, _⟩ := h
    rfl
  · obtain ⟨mk, bs, b, s', rfl, rfl, hm, hb, q⟩ := h
    refine ⟨_, PSs.nox (pss_one (ps_ret (pe_ix (ix_listK K rfl) (pv 1) (pv 0) (fun _ _ => rfl)))), ?_⟩
    exact ⟨.ref mk, rfl, .int (s' : Int), rfl, mk, _, (s' : Int), .bl b, rfl, rfl, .inl (.inl hm), atI_nat (vb_get hb), q⟩
theorem cap_fY {f c : Addr} {A : Around} {outer : List Env} {s : Shared} {H : Hp} {E : XK} (ok : (xY P w K mg base f c A outer s H E).Ok) : Caps (xY P w K mg base f c A outer s H E) (cloFrom (xY P w K mg base f c A outer s H E).env.cells (C8.fnScope st_movesY).names []) ["table"] [2] := Caps.made ok free_movesY (by decide +kernel) rfl
theorem cap_eY {f c : Addr} {A : Around} {outer : List Env} {s : Shared} {H : Hp} {E : XK} (ok : (xY P w K mg base f c A outer s H E).Ok) : Caps (xY P w K mg base f c A outer s H E) (cloFrom (xY P w K mg base f c A outer s H E).env.cells (C8.fnScope st_is_endY).names []) ["marks"] [4] := Caps.made ok free_is_endY (by decide +kernel) rfl
theorem cap_aY {f c : Addr} {A : Around} {outer : List Env} {s : Shared} {H : Hp} {E : XK} : Caps (xY P w K mg base f c A outer s H E) (xY P w K mg base f c A outer s H E).env.cells ["table", "marks"] [2, 4] := ⟨fun _ _ e => e, by
  intro y hy
  simp only [List.mem_cons, List.mem_nil_iff, or_false] at hy
  rcases hy with rfl | rfl
  · exact .inl rfl
  · exact .inl rfl, fun _ _ _ e => e, rfl⟩
abbrev RM (M : Mach) (s : Nat) : List Nat := M.rows.getD s []
abbrev finM (M : Mach) (s : Nat) : Bool := decide (s ∈ M.ends)
def sp_ways_of (tabs : List NTab) : Sp := fun vs H Q _ => ∃ (m : Addr) (M : Mach), vs = [.ref m] ∧ MachAt H m M ∧ M.Ok ∧ M.rows.length ≤ 100000 ∧ TabsN tabs H ∧
  ∀ H' p fa wa ea us, ExtN H H' → TabsN tabs H' → H' p = some (.tup [.ref fa, .ref wa, .ref ea]) → H' fa = some (.lst (vi (if 0 ∈ us then [us.idxOf 0] else []))) → WaysAt H' wa us M.z.length (RM M) → H' ea = some (.lst (vb (us.map (finM M)))) → UsOk (RM M) (finM M) 0 M.rows.length us → Q (.ref p) H'
theorem ok_ways_of (T : TX K mg) {c PT : Addr} {tabs : List NTab} (F : FunC K "ways_of" "ways_of" s_ways_of T.a_ways_of T.fd_ways_of c) (TB : TabB base mg c PT) (hin : (PT, nm_ways_of) ∈ tabs) (huq : ∀ p ∈ tabs, p.1 = PT → p.2 = nm_ways_of) : FnOk P w K mg base CX0 7 T.a_ways_of T.fd_ways_of ["machine"] (sp_ways_of tabs) := by
  have G_end_marks : FnOk P w K mg base CX0 1 T.a_end_marks T.fd_end_marks ["machine"] sp_end_marks := ok_end_marks T
  have G_useful_ways : FnOk P w K mg base CX0 6 T.a_useful_ways T.fd_useful_ways ["starts", "moves", "is_end"] (sp_useful_ways P w K mg base) := ok_useful_ways T
  refine F.ok sc_ways_of (fun vs H Q E h => ?_) (fun A outer s H vs Q E hr h => ?_)
  · obtain ⟨m, M, rfl, _⟩ := h
    rfl
  · obtain ⟨m, M, rfl, mm, k, hbig, tb0, q⟩ := h
    obtain ⟨t, e, as, h1, h2, h3, h4⟩ := id mm
    refine ⟨_, (pss_cons (ps_asg (pv 0) (pg_tupK (n := 3) K rfl (by rfl) (pgs_cons (pg_name (i := 1) sc_ways_of.nd rfl (Or.inl rfl)) (pgs_cons (pg_name (i := 2) sc_ways_of.nd rfl (Or.inr rfl)) (pgs_cons (pg_name (i := 3) sc_ways_of.nd rfl (Or.inl rfl)) pgs_nil)))))
        (pss_cons (ps_set (i := 4) sc_ways_of.nd rfl (Or.inr rfl) (pe_call G_end_marks (hr.mono (by decide)) (by rfl) T.g_end_marks T.F_end_marks.kp T.b_end_marks .nil pass0 (pa_cons (pv 0) pa_nil)))
        (pss_cons (ps_ndefMS (st := st_movesY) (i := 5) rfl TB rfl hin (by kernel_rfl) huq free_movesY rfl rfl rfl sc_ways_of.nd rfl (Or.inl rfl) (Or.inr rfl))
        (pss_cons (ps_ndefMS (st := st_is_endY) (i := 6) rfl TB rfl hin (by kernel_rfl) huq free_is_endY rfl rfl rfl sc_ways_of.nd rfl (Or.inl rfl) (Or.inr rfl))
        (pss_one (ps_ret (pe_callTr G_useful_ways (hr.mono (by decide)) (by rfl) T.g_useful_ways T.F_useful_ways.kp T.b_useful_ways (fun _ => cap_aY) (fun _ => rfl) (pa_cons (pe_lst (pa_cons pe_int pa_nil)) (pa_cons (pv 5) (pa_cons (pv 6) pa_nil)))))))))), ?_⟩
    refine ⟨.ref m, rfl, m, [.str M.z, .ref t, .ref e], rfl, .inl (.inl h1), rfl, .str M.z, _, rfl, .ref t, _, rfl, .ref e, [], rfl, rfl, ?_⟩
    refine ⟨.ref m, rfl, m, M, rfl, mm, k, by omega, fun H1 mk sm1 nmk emk => ?_⟩
    refine ⟨tb0.ext sm1, fun f1 c1 H2 ex2 ng2 tb2 nf1 ef1 ec1 => ?_⟩
    refine ⟨tb2, fun f2 c2 H3 ex3 ng3 tb3 nf2 ef2 ec2 => ?_⟩
    have s13 : ∀ b o, H1 b = some o → (∀ ps, o ≠ .tbl ps) → H3 b = some o := fun b o eb n => ex3 b o (ex2 b o eb n) n
    refine ⟨by show 1 ≤ sizeLine; decide, fun st nst => ?_⟩
    have s34 := same_new (o := .lst [.int (0 : Int)]) nst
    have est : (upd H3 st (.lst [.int (0 : Int)])) st = some (.lst (vi [0])) := upd_same
    refine ⟨.ref f1, rfl, .ref f2, rfl, rfl, fun ok H4 hout hnone CT => ?_⟩
    have f31 : H3 f1 = some (FnO f1 (nf_movesY (cloFrom (xY P w K mg base T.a_ways_of c A outer s H E).env.cells (C8.fnScope st_movesY).names []) c1)) := ex3 f1 _ ef1 fun ps => fnO_ne ps
    have c31 : H3 c1 = some (CodeO c1 q_movesY) := ex3 c1 _ ec1 fun ps => codeO_ne ps
    have f32 : H3 f2 = some (FnO f2 (nf_is_endY (cloFrom (xY P w K mg base T.a_ways_of c A outer s H E).env.cells (C8.fnScope st_is_endY).names []) c2)) := ef2
    have c32 : H3 c2 = some (CodeO c2 q_is_endY) := ec2
    have nin : ∀ b o, (upd H3 st (.lst [.int (0 : Int)])) b = some o → ¬ inC (xY P w K mg base T.a_ways_of c A outer s H E).env.cells b := fun b o eb z => by
      have := hnone b z
      rw [eb] at this
      cases this
    have up4 : ∀ b o, (upd H3 st (.lst [.int (0 : Int)])) b = some o → H4 b = some o := fun b o eb => by
      rw [hout b (nin b o eb)]
      exact eb
    have up : ∀ b o, H3 b = some o → H4 b = some o := fun b o eb => up4 b o (s34 _ _ eb)
    have t4 : H4 t = some (.tup (vr as)) := up _ _ (s13 _ _ (sm1 _ _ h2) (by intro ps z; cases z))
    have k4 : H4 mk = some (.lst ((marksOf M).map V.bl)) := up _ _ (s13 _ _ emk (by intro ps z; cases z))
    have r4 : ∀ (i : Nat) (a : Addr) (row : List Nat), as[i]? = some a → M.rows[i]? = some row → H4 a = some (.tup (vi row)) := fun i a row x y => up _ _ (s13 _ _ (sm1 _ _ (h3.2 i a row x y)) (by intro ps z; cases z))
    have cellE : ∀ b, inC (xY P w K mg base T.a_ways_of c A outer s H E).env.cells b → ∃ o, H4 b = some (CellO b o) := fun b z => by
      obtain ⟨y, hy⟩ := z
      obtain ⟨o, v, z1, _⟩ := CT.all y b hy
      exact ⟨o, z1⟩
    have capF := cap_fY ok
    have capE := cap_eY ok
    have CF : ∀ H' : Hp, Same H4 H' → CellsT H' (cloFrom (xY P w K mg base T.a_ways_of c A outer s H E).env.cells (C8.fnScope st_movesY).names []) ["table"] [some (.ref t)] := fun H' sm => (CT.same fun b o eb => sm _ _ eb).sub capF rfl fun i y hy => by
      match i, hy with
      | 0, hy => exact ⟨0, hy, rfl⟩
      | i + 1, hy => simp at hy
    have CE : ∀ H' : Hp, Same H4 H' → CellsT H' (cloFrom (xY P w K mg base T.a_ways_of c A outer s H E).env.cells (C8.fnScope st_is_endY).names []) ["marks"] [some (.ref mk)] := fun H' sm => (CT.same fun b o eb => sm _ _ eb).sub capE rfl fun i y hy => by
      match i, hy with
      | 0, hy => exact ⟨1, hy, rfl⟩
      | i + 1, hy => simp at hy
    have ca1 := Callable.of ((ok_movesY (P := P) (w := w) (K := K) (mg := mg) (base := base) (f := f1) (c := c1) (cl := cloFrom (xY P w K mg base T.a_ways_of c A outer s H E).env.cells (C8.fnScope st_movesY).names [])).mono (show 1 ≤ 4 by decide))
    have ca2 := Callable.of ((ok_is_endY (P := P) (w := w) (K := K) (mg := mg) (base := base) (f := f2) (c := c2) (cl := cloFrom (xY P w K mg base T.a_ways_of c A outer s H E).env.cells (C8.fnScope st_is_endY).names [])).mono (show 1 ≤ 4 by decide))
    have rowd : ∀ s', s' < M.rows.length → M.rows[s']? = some (RM M s') := fun s' h => by
      show _ = some (M.rows.getD s' [])
      rw [List.getD_eq_getElem?_getD, List.getElem?_eq_getElem h]
      rfl
    have rok : ∀ s', s' < M.rows.length → (RM M s').length = M.z.length ∧ ∀ t ∈ RM M s', t < M.rows.length := fun s' h => k.row _ (List.mem_of_getElem? (rowd s' h))
    have lz := k.let_.five
    refine ⟨st, f1, f2, _, _, _, _, 0, M.rows.length, M.z.length, RM M, finM M, rfl, up4 _ _ est, up _ _ f31, ca1, up _ _ f32, ca2, k.many, hbig, k.let_.one, lz, rok, fun s' H' Q' hs' sm hQ => ?_, fun s' H' Q' hs' sm hQ => ?_, fun H5 p fa wa ea us sm5 ep efa ew eea uo => ⟨fun b y => ?_, ?_⟩⟩
    · -- moves
      have nC : ∀ b o, H' b = some o → (∀ x, o ≠ CellO b x) → hide (inC (cloFrom (xY P w K mg base T.a_ways_of c A outer s H E).env.cells (C8.fnScope st_movesY).names [])) H' b = some o := fun b o eb n => by
        rw [hide_out (fun z => by
          obtain ⟨y, hy⟩ := z
          obtain ⟨o', v, z1, _⟩ := (CF H' sm).all y b hy
          rw [eb] at z1
          exact n _ (Option.some.inj z1))]
        exact eb
      have ha := List.getElem?_eq_getElem (l := as) (i := s') (by rw [h3.1]; exact hs')
      generalize as[s']'(by rw [h3.1]; exact hs') = a at ha
      have hr := rowd s' hs'
      have hrl := (rok s' hs').1
      refine ⟨[some (.ref t)], sm _ _ (up _ _ f31), sm _ _ (up _ _ c31), CF H' sm, t, a, as, s', RM M s', rfl, rfl, nC _ _ (sm _ _ t4) (by intro x z; cases z), ha, nC _ _ (sm _ _ (r4 s' a _ ha hr)) (by intro x z; cases z), by rw [hrl]; omega, fun H6 b gas sm6 nb eb lg ng cg h6n => ?_⟩
      have out6 : ∀ (x : Addr) (o : HO), H6 x = some o → ¬ inC (cloFrom (xY P w K mg base T.a_ways_of c A outer s H E).env.cells (C8.fnScope st_movesY).names []) x := fun x o ex z => by
        rw [h6n x z] at ex
        cases ex
      refine hQ _ b gas (fun x o ex => ?_) ?_ ((back_out (out6 b _ eb)).trans eb) lg (fun ga h => ?_) (fun c ga t' e1 e2 => ?_)
      · by_cases z : inC (cloFrom (xY P w K mg base T.a_ways_of c A outer s H E).env.cells (C8.fnScope st_movesY).names []) x
        · exact (back_in z).trans ex
        · exact (back_out z).trans (sm6 _ _ ((hide_out z).trans ex))
      · exact (hide_out (out6 b _ eb)).symm.trans nb
      · obtain ⟨c, hc⟩ := List.mem_iff_getElem?.mp h
        have hcl := (List.getElem?_eq_some_iff.mp hc).1
        exact (hide_out (out6 ga _ (cg c ga _ hc (List.getElem?_eq_getElem (by rw [← lg]; exact hcl))))).symm.trans (ng ga h)
      · have := cg c ga t' e1 e2
        exact (back_out (out6 ga _ this)).trans this
    · -- is_end
      have nC : ∀ b o, H' b = some o → (∀ x, o ≠ CellO b x) → hide (inC (cloFrom (xY P w K mg base T.a_ways_of c A outer s H E).env.cells (C8.fnScope st_is_endY).names [])) H' b = some o := fun b o eb n => by
        rw [hide_out (fun z => by
          obtain ⟨y, hy⟩ := z
          obtain ⟨o', v, z1, _⟩ := (CE H' sm).all y b hy
          rw [eb] at z1
          exact n _ (Option.some.inj z1))]
        exact eb
      have hb : (marksOf M)[s']? = some (finM M s') := by
        unfold marksOf
        rw [List.getElem?_map, List.getElem?_range hs']
        rfl
      refine ⟨[some (.ref mk)], sm _ _ (up _ _ f32), sm _ _ (up _ _ c32), CE H' sm, mk, marksOf M, finM M s', s', rfl, rfl, nC _ _ (sm _ _ k4) (by intro x z; cases z), hb, fun h6n => ?_⟩
      refine hQ _ fun x o ex => ?_
      by_cases z : inC (cloFrom (xY P w K mg base T.a_ways_of c A outer s H E).env.cells (C8.fnScope st_is_endY).names []) x
      · exact (back_in z).trans ex
      · exact (back_out z).trans ((hide_out z).trans ex)
    · obtain ⟨o, z1⟩ := cellE b y
      rw [sm5 _ _ z1, z1]
    · have keep : ∀ b o, (upd H3 st (.lst [.int (0 : Int)])) b = some o → hide (inC (xY P w K mg base T.a_ways_of c A outer s H E).env.cells) H5 b = some o := fun b o eb => by
        rw [hide_out (nin b o eb)]
        exact sm5 _ _ (up4 b o eb)
      have hid : ∀ b o, H5 b = some o → (∀ x, o ≠ CellO b x) → hide (inC (xY P w K mg base T.a_ways_of c A outer s H E).env.cells) H5 b = some o := fun b o eb n => by
        rw [hide_out (fun z => by
          obtain ⟨o', z1⟩ := cellE b z
          rw [sm5 _ _ z1] at eb
          exact n _ (Option.some.inj eb).symm)]
        exact eb
      refine q _ p fa wa ea us (fun b o eb n => keep b o (s34 _ _ (s13 b o (sm1 _ _ eb) n))) ((tb3.ext s34).ext fun b o eb => keep b o eb) (hid _ _ ep (by intro x z; cases z)) (hid _ _ efa (by intro x z; cases z)) (ew.mono fun b xs eb => hid _ _ eb (by intro x z; cases z)) (hid _ _ eea (by intro x z; cases z)) uo
end
end LH

namespace LH
open PySem PySem.Spec PyProof.Rows L2
/-! ### unseen, spread -/
def addL (ss ns : List Nat) : List Nat := ns.foldl (fun a u => if u ∈ a then a else a ++ [u]) ss
theorem addL_snoc (ss ns : List Nat) (u : Nat) : addL ss (ns ++ [u]) = if u ∈ addL ss ns then addL ss ns else addL ss ns ++ [u] := by
  unfold addL
  rw [List.foldl_append]
  rfl
theorem mem_addL {x : Nat} : ∀ {ns ss : List Nat}, x ∈ addL ss ns ↔ x ∈ ss ∨ x ∈ ns
  | [], ss => by
    show x ∈ ss ↔ _
    simp
  | u :: ns, ss => by
    show x ∈ addL (if u ∈ ss then ss else ss ++ [u]) ns ↔ _
    rw [mem_addL (ns := ns), List.mem_cons]
    by_cases h : u ∈ ss
    · rw [if_pos h]
      constructor
      · rintro (a | a)
        · exact .inl a
        · exact .inr (.inr a)
      · rintro (a | a | a)
        · exact .inl a
        · exact .inl (a ▸ h)
        · exact .inr a
    · rw [if_neg h, List.mem_append, List.mem_singleton, or_assoc]
theorem nd_addL : ∀ {ns ss : List Nat}, ss.Nodup → (addL ss ns).Nodup
  | [], _, h => h
  | u :: ns, ss, h => by
    show (addL (if u ∈ ss then ss else ss ++ [u]) ns).Nodup
    by_cases q : u ∈ ss
    · rw [if_pos q]
      exact nd_addL h
    · rw [if_neg q]
      refine nd_addL (List.nodup_append.mpr ⟨h, by simp, fun a ha b hb e => ?_⟩)
      rw [List.mem_singleton.mp hb] at e
      exact q (e ▸ ha)
/-- a dict that has just these numbers -/
def SD (kvs : List (Key × V)) (ss : List Nat) : Prop := kvs.length ≤ ss.length ∧ ∀ s : Nat, (valV kvs (Sum.inl (s : Int) : Key)).isSome = decide (s ∈ ss)
theorem SD.more {kvs : List (Key × V)} {ss : List Nat} {u : Nat} {v : V} (h : SD kvs ss) (_ : u ∉ ss) : SD (putK kvs (Sum.inl (u : Int)) v) (ss ++ [u]) := by
  refine ⟨?_, fun s => ?_⟩
  · have h1 := length_putK kvs (Sum.inl (u : Int) : Key) v
    have h2 := h.1
    rw [List.length_append]
    exact Nat.le_trans h1 (Nat.succ_le_succ h2)
  · rw [valV_put]
    by_cases z : s = u
    · subst z
      rw [if_pos rfl, decide_eq_true (List.mem_append_right _ (by simp))]
      rfl
    · rw [if_neg fun y => z (by have := Sum.inl.inj y; omega), h.2 s]
      congr 1
      simp [z]
theorem addL_lt {N : Nat} {ss ns : List Nat} (nd : ss.Nodup) (h1 : ∀ x ∈ ss, x < N) (h2 : ∀ x ∈ ns, x < N) : (addL ss ns).length ≤ N := by
  have := len_le_of_sub (nd_addL (ns := ns) nd) (ys := List.range N) fun x hx => List.mem_range.mpr ((mem_addL.mp hx).elim (h1 x) (h2 x))
  rwa [List.length_range] at this
def LstsAt (H : Hp) (las : List Addr) (nss : List (List Nat)) : Prop := las.length = nss.length ∧ ∀ (i : Nat) (a : Addr) (ns : List Nat), las[i]? = some a → nss[i]? = some ns → H a = some (.lst (vi ns))
theorem LstsAt.mono {H H' : Hp} {las : List Addr} {nss : List (List Nat)} (m : ∀ b xs, H b = some (.lst xs) → H' b = some (.lst xs)) (h : LstsAt H las nss) : LstsAt H' las nss := ⟨h.1, fun i a ns x y => m _ _ (h.2 i a ns x y)⟩
inductive CloN (nx : List (List Nat)) (S : List Nat) : Nat → Prop
  | one {x : Nat} : x ∈ S → CloN nx S x
  | step {x y : Nat} {ys : List Nat} : CloN nx S x → nx[x]? = some ys → y ∈ ys → CloN nx S y
section
variable {P : Program} {w : World} {K : PySem.W.Frag} {mg : Str → Option Value} {base : Heap}
def sp_unseen : Sp := fun vs H Q _ => ∃ (l d : Addr) (las : List Addr) (nss : List (List Nat)) (kvs : List (Key × V)) (ss : List Nat) (N : Nat), vs = [.ref l, .ref d] ∧ H l = some (.lst (vr las)) ∧ LstsAt H las nss ∧ H d = some (.dK kvs) ∧ SD kvs ss ∧ ss.Nodup ∧ (∀ x ∈ ss, x < N) ∧ (∀ x ∈ nss.flatten, x < N) ∧ N ≤ 100000 ∧
  ∀ H' f kvs' fs, Off d H H' → H f = none → H' f = some (.lst (vi fs)) → H' d = some (.dK kvs') → SD kvs' (ss ++ fs) → ss ++ fs = addL ss nss.flatten → Q (.ref f) H'
theorem ok_unseen (T : TX K mg) : FnOk P w K mg base CX0 1 T.a_unseen T.fd_unseen ["lists", "seen"] sp_unseen := by
  refine T.F_unseen.ok sc_unseen (fun vs H Q E h => ?_) (fun cdv A outer s H vs Q E hr h => ?_)
  · obtain ⟨l, d, las, nss, kvs, ss, N, rfl, _⟩ := h
    rfl
  · obtain ⟨l, d, las, nss, kvs, ss, N, rfl, el, ela, ed, sd, nd, lt1, lt2, hN, q⟩ := h
    refine ⟨_, (pss_cons (ps_set (i := 2) sc_unseen.nd rfl (Or.inl rfl) (pe_lst pa_nil))
      (pss_cons (ps_for PassesOwn.never rfl (pi_listK K rfl (pv 0)) (pg_name (i := 3) sc_unseen.nd rfl (Or.inl rfl))
        (pss_one (ps_for PassesOwn.never rfl (pi_listK K rfl (pv 3)) (pg_name (i := 4) sc_unseen.nd rfl (Or.inl rfl))
            (pss_one (ps_if (pt_cmp (pc_dnotin (hu_of hr) (pv 4) (pv 1)))
                (pss_cons (ps_dput (hu_of hr) (pv 1) (pv 4) pe_bl rfl)
                  (pss_one (ps_expr (pe_bmK K rfl PySem.F.plainAttrs_list PySem.F.slot_list_append PySem.F.type_list_append mt_append (pv 2) (pa_cons (pv 4) pa_nil)))))
                pss_nil)))))
      (pss_one (ps_ret (pv 2))))), ?_⟩
    have neD : ∀ {b : Addr} {xs : List V}, H b = some (.lst xs) → b ≠ d := fun e => ne_of e ed (by intro z; cases z)
    have ld := neD el
    refine ⟨by show 0 ≤ sizeLine; decide, fun f nf => ?_⟩
    have df : d ≠ f := ne_of_none ed nf
    have s0 : Same H (upd H f (.lst [])) := same_new nf
    have e0 : (upd H f (.lst [])) f = some (.lst (vi [])) := upd_same
    generalize upd H f (.lst []) = H0 at s0 e0
    have small : ∀ (i : Nat) (ns : List Nat), (∀ x ∈ (nss.take i).flatten ++ ns, x < N) → (addL ss ((nss.take i).flatten ++ ns)).length ≤ N := fun i ns h => addL_lt nd lt1 h
    refine ⟨.ref l, rfl, l, rfl, ⟨_, .inl (.inl (s0 _ _ el))⟩, ?_⟩
    refine for_it (walk_list (K := K) (a := l) (xs := vr las)) (fun i σ H' => Off d H H' ∧ (∃ kvs' fs, H' f = some (.lst (vi fs)) ∧ H' d = some (.dK kvs') ∧ SD kvs' (ss ++ fs) ∧ ss ++ fs = addL ss (nss.take i).flatten) ∧ ∃ y3 y4, σ = [some (.ref l), some (.ref d), some (.ref f), y3, y4]) ⟨Off.of s0, ⟨kvs, [], e0, s0 _ _ ed, by rw [List.append_nil]; exact sd, by rw [List.append_nil]; rfl⟩, none, none, rfl⟩ (fun i σ H' _ hP => .inl (.inl (hP.1 _ _ ld el))) (fun i v σ H1 H1' hi hW hY => ?_) (fun σ H1 hW => ?_)
    · obtain ⟨o1, ⟨kvs1, fs1, ef1, ed1, sd1, ea1⟩, y3, y4, rfl⟩ := hW
      obtain ⟨rfl, hx⟩ := hY
      obtain ⟨a, ha, rfl⟩ := vr_at hx
      rw [List.length_map, ela.1] at hi
      have hns := List.getElem?_eq_getElem hi
      generalize nss[i] = ns at hns
      have ena := ela.2 i a ns ha hns
      have ad := neD ena
      have et : (nss.take (i + 1)).flatten = (nss.take i).flatten ++ ns := by
        rw [List.take_add_one, hns, List.flatten_append]
        simp
      have lt3 : ∀ x ∈ (nss.take i).flatten ++ ns, x < N := fun x hx => by
        rw [← et] at hx
        obtain ⟨ys, h1, h2⟩ := List.mem_flatten.mp hx
        exact lt2 x (List.mem_flatten.mpr ⟨ys, List.take_subset _ _ h1, h2⟩)
      refine ⟨.ref a, rfl, a, rfl, ⟨_, .inl (.inl (o1 _ _ ad ena))⟩, ?_⟩
      refine for_it (walk_list (K := K) (a := a) (xs := vi ns)) (fun j σ H' => Off d H H' ∧ (∃ kvs' fs, H' f = some (.lst (vi fs)) ∧ H' d = some (.dK kvs') ∧ SD kvs' (ss ++ fs) ∧ ss ++ fs = addL ss ((nss.take i).flatten ++ ns.take j)) ∧ ∃ y4, σ = [some (.ref l), some (.ref d), some (.ref f), some (.ref a), y4]) ⟨o1, ⟨kvs1, fs1, ef1, ed1, sd1, by rw [List.take_zero, List.append_nil]; exact ea1⟩, _, rfl⟩ (fun i σ H' _ hP => .inl (.inl (hP.1 _ _ ad ena))) (fun j v σ H2 H2' hj hW hY => ?_) (fun σ H2 hW => ?_)
      · obtain ⟨o2, ⟨kvs2, fs2, ef2, ed2, sd2, ea2⟩, y4, rfl⟩ := hW
        obtain ⟨rfl, hx⟩ := hY
        obtain ⟨u, hu, rfl⟩ := int_at hx
        have en : addL ss ((nss.take i).flatten ++ ns.take (j + 1)) = if u ∈ ss ++ fs2 then ss ++ fs2 else ss ++ fs2 ++ [u] := by
          rw [take_snoc hu, ← List.append_assoc, addL_snoc, ea2]
        have len2 := small i (ns.take j) fun x hx => lt3 x (by
          rcases List.mem_append.mp hx with h | h
          · exact List.mem_append_left _ h
          · exact List.mem_append_right _ (List.take_subset _ _ h))
        rw [← ea2, List.length_append] at len2
        have k1 := sd2.1
        rw [List.length_append] at k1
        refine ⟨.int (u : Int), rfl, .ref d, rfl, d, _, rfl, DGet.k (k := Sum.inl (u : Int)) ed2, _, rfl, ?_⟩
        rw [sd2.2 u]
        by_cases h : u ∈ ss ++ fs2
        · rw [decide_eq_true h]
          exact ⟨o2, ⟨kvs2, fs2, ef2, ed2, sd2, by rw [en, if_pos h]⟩, _, rfl⟩
        · rw [decide_eq_false h]
          refine ⟨.ref d, rfl, .int (u : Int), rfl, d, _, rfl, DPut.k (k := Sum.inl (u : Int)) ed2 (Nat.lt_of_le_of_lt (show kvs2.length ≤ 1000000 by omega) (by decide)), ?_⟩
          have e3 : (upd H2' d (.dK (putK kvs2 (Sum.inl (u : Int)) (.bl true)))) f = some (.lst (vi fs2)) := by rw [upd_ne df.symm]; exact ef2
          refine ⟨.ref f, rfl, .inl ⟨rfl, _, .inl (.inl e3)⟩, .int (u : Int), rfl, f, _, _, rfl, rfl, e3, by rw [List.length_map]; exact Nat.lt_of_le_of_lt (show fs2.length ≤ 1000000 by omega) (by decide), fun b ob bd eb => ?_, ⟨putK kvs2 (Sum.inl (u : Int)) (.bl true), fs2 ++ [u], ?_, ?_, ?_, ?_⟩, _, rfl⟩
          · rw [upd_ne (ne_of_none eb nf), upd_ne bd]
            exact o2 _ _ bd eb
          · rw [upd_same, vi_snoc]
          · rw [upd_ne df, upd_same]
          · rw [← List.append_assoc]
            exact sd2.more h
          · rw [en, if_neg h, List.append_assoc]
      · obtain ⟨o2, ⟨kvs2, fs2, ef2, ed2, sd2, ea2⟩, y4, rfl⟩ := hW
        rw [List.length_map, List.take_of_length_le (Nat.le_refl _)] at ea2
        exact ⟨o2, ⟨kvs2, fs2, ef2, ed2, sd2, by rw [ea2, et]⟩, _, _, rfl⟩
    · obtain ⟨o1, ⟨kvs1, fs1, ef1, ed1, sd1, ea1⟩, y3, y4, rfl⟩ := hW
      rw [List.length_map, ela.1, List.take_of_length_le (Nat.le_refl _)] at ea1
      exact ⟨.ref f, rfl, q _ f kvs1 fs1 o1 nf ef1 ed1 sd1 ea1⟩
def sp_spread : Sp := fun vs H Q _ => ∃ (l n : Addr) (las nas : List Addr) (nss nx : List (List Nat)), vs = [.ref l, .ref n] ∧ H l = some (.lst (vr las)) ∧ LstsAt H las nss ∧ H n = some (.lst (vr nas)) ∧ LstsAt H nas nx ∧ (∀ x ∈ nss.flatten, x < nx.length) ∧ (∀ ys ∈ nx, ∀ y ∈ ys, y < nx.length) ∧ nx.length ≤ 100000 ∧
  ∀ H' f us, Same H H' → H f = none → H' f = some (.lst (vi us)) → us.Nodup → (∀ x ∈ us, x < nx.length) → (∀ x, x ∈ us ↔ CloN nx nss.flatten x) → Q (.ref f) H'
theorem ok_spread (T : TX K mg) : FnOk P w K mg base CX0 2 T.a_spread T.fd_spread ["lists", "nexts"] sp_spread := by
  have G_unseen : FnOk P w K mg base CX0 1 T.a_unseen T.fd_unseen ["lists", "seen"] sp_unseen := ok_unseen T
  refine T.F_spread.ok sc_spread (fun vs H Q E h => ?_) (fun cdv A outer s H vs Q E hr h => ?_)
  · obtain ⟨l, n, las, nas, nss, nx, rfl, _⟩ := h
    rfl
  · obtain ⟨l, n, las, nas, nss, nx, rfl, el, ela, en, ena, lt1, lt2, hN, q⟩ := h
    refine ⟨_, (pss_cons (ps_set (i := 2) sc_spread.nd rfl (Or.inl rfl) pe_dnewK)
      (pss_cons (ps_set (i := 3) sc_spread.nd rfl (Or.inl rfl) (pe_call G_unseen (hr.mono (by decide)) (by rfl) T.g_unseen T.F_unseen.kp T.b_unseen .nil pass0 (pa_cons (pv 0) (pa_cons (pv 2) pa_nil))))
      (pss_cons (ps_set (i := 4) sc_spread.nd rfl (Or.inl rfl) pe_int)
      (pss_cons (ps_while PassesOwn.never (pt_cmpR op_lt (pv 4) (pe_callB (call_lenK K rfl) (by rfl) T.m_len (by decide +kernel) (pa_cons (pv 3) pa_nil)) (nomark _))
        (pss_cons (ps_set (i := 5) sc_spread.nd rfl (Or.inl rfl) (pe_call G_unseen (hr.mono (by decide)) (by rfl) T.g_unseen T.F_unseen.kp T.b_unseen .nil pass0 (pa_cons (pe_lst (pa_cons (pe_ix (ix_listK K rfl) (pv 1) (pe_ix (ix_listK K rfl) (pv 3) (pv 4) (fun _ _ => rfl)) (fun _ _ => rfl)) pa_nil)) (pa_cons (pv 2) pa_nil))))
          (pss_cons (ps_aug (i := 3) sc_spread.nd rfl (Or.inl rfl) (pv 5) iop_ext)
          (pss_one (ps_aug (i := 4) sc_spread.nd rfl (Or.inl rfl) pe_int ip_add)))))
      (pss_one (ps_ret (pv 3))))))), ?_⟩
    refine fun d nD => ?_
    have sD := same_new (o := .dK []) nD
    refine ⟨.ref l, rfl, .ref d, rfl, l, d, las, nss, [], [], nx.length, rfl, sD _ _ el, ela.mono fun b xs e => sD _ _ e, upd_same, ⟨Nat.le_refl _, fun s' => rfl⟩, List.nodup_nil, (fun _ h => nomatch h), lt1, hN, fun H1 f kvs1 us1 o1 nf ef ed sd1 ea1 => ?_⟩
    rw [List.nil_append] at sd1 ea1
    have fD : d ≠ f := fun z => by
      rw [← z, upd_same] at nf
      cases nf
    have fH : H f = none := by
      rw [upd_ne fD.symm] at nf
      exact nf
    have sm1 : Same H H1 := fun b o e => o1 _ _ (ne_of_none e nD) (sD _ _ e)
    have nd1 : us1.Nodup := ea1 ▸ nd_addL List.nodup_nil
    have m1 : ∀ x, x ∈ us1 ↔ x ∈ nss.flatten := fun x => by
      rw [ea1, mem_addL]
      exact ⟨fun h => h.elim (fun h => nomatch h) id, .inr⟩
    have clt : ∀ x, CloN nx nss.flatten x → x < nx.length := fun x h => by
      cases h with
      | one h => exact lt1 x h
      | step _ h2 h3 => exact lt2 _ (List.mem_of_getElem? h2) x h3
    refine ⟨fun m σ G => ∃ (us : List Nat) (kvs : List (Key × V)) (i : Nat) (y5 : Option V), m = nx.length - i ∧ i ≤ us.length ∧ σ = [some (.ref l), some (.ref n), some (.ref d), some (.ref f), some (.int (i : Int)), y5] ∧ Same H G ∧ G f = some (.lst (vi us)) ∧ G d = some (.dK kvs) ∧ SD kvs us ∧ us.Nodup ∧ (∀ x ∈ us, CloN nx nss.flatten x) ∧ (∀ x ∈ nss.flatten, x ∈ us) ∧ ∀ (x y : Nat) (ys : List Nat), x ∈ us.take i → nx[x]? = some ys → y ∈ ys → y ∈ us, ⟨_, us1, kvs1, 0, none, rfl, Nat.zero_le _, rfl, sm1, ef, ed, sd1, nd1, (fun x h => .one ((m1 x).mp h)), (fun x h => (m1 x).mpr h), fun x y ys h => by rw [List.take_zero] at h; cases h⟩, fun m σ G hW => ?_⟩
    obtain ⟨us, kvs, i, y5, hm, hi, rfl, sG, efG, edG, sdG, ndG, snd, inc, clo⟩ := hW
    have lenU : us.length ≤ nx.length := by
      have := len_le_of_sub ndG (ys := List.range nx.length) fun x hx => List.mem_range.mpr (clt x (snd x hx))
      rwa [List.length_range] at this
    refine ⟨.int (i : Int), rfl, .ref f, rfl, f, _, rfl, .inl (.inl (.inl efG)), (i : Int), _, rfl, rfl, _, rfl, ite2 (fun z => ?_) (fun z => ?_)⟩
    · have hil : i < us.length := by
        have := of_decide_eq_true z
        rw [List.length_map] at this
        omega
      have hu := List.getElem?_eq_getElem hil
      generalize us[i] = u at hu
      have hul := clt u (snd u (List.mem_of_getElem? hu))
      have hys := List.getElem?_eq_getElem hul
      have hya := List.getElem?_eq_getElem (l := nas) (i := u) (by rw [ena.1]; exact hul)
      generalize nas[u]'(by rw [ena.1]; exact hul) = ya at hya
      generalize nx[u] = ys at hys
      have eya := ena.2 u ya ys hya hys
      refine ⟨fun σ' G' => ∃ (us : List Nat) (kvs : List (Key × V)) (y5 : Option V), i + 1 ≤ us.length ∧ σ' = [some (.ref l), some (.ref n), some (.ref d), some (.ref f), some (.int ((i + 1 : Nat) : Int)), y5] ∧ Same H G' ∧ G' f = some (.lst (vi us)) ∧ G' d = some (.dK kvs) ∧ SD kvs us ∧ us.Nodup ∧ (∀ x ∈ us, CloN nx nss.flatten x) ∧ (∀ x ∈ nss.flatten, x ∈ us) ∧ ∀ (x y : Nat) (ys : List Nat), x ∈ us.take (i + 1) → nx[x]? = some ys → y ∈ ys → y ∈ us, fun σ' G' hN => ?_, ?_⟩
      · obtain ⟨us', kvs', y5', c1, c2⟩ := hN
        exact ⟨nx.length - (i + 1), by omega, us', kvs', i + 1, y5', rfl, c1, c2⟩
      refine ⟨.ref n, rfl, .ref f, rfl, .int (i : Int), rfl, f, _, (i : Int), .int (u : Int), rfl, rfl, .inl (.inl efG), atI_nat (vi_get hu), n, _, (u : Int), .ref ya, rfl, rfl, .inl (.inl (sG _ _ en)), atI_nat (vr_get hya), by show 1 ≤ sizeLine; decide, fun p np => ?_⟩
      have sp := same_new (o := .lst [.ref ya]) np
      refine ⟨.ref d, rfl, p, d, [ya], [ys], kvs, us, nx.length, rfl, upd_same, ⟨rfl, fun i a ns x y => ?_⟩, sp _ _ edG, sdG, ndG, (fun x hx => clt x (snd x hx)), (fun x hx => ?_), hN, fun H2 f2 kvs2 fs o2 nf2 ef2 ed2 sd2 ea2 => ?_⟩
      · have hi := (List.getElem?_eq_some_iff.mp x).1
        have hi : i < 1 := hi
        obtain rfl : i = 0 := by omega
        cases x
        cases y
        exact sp _ _ (sG _ _ eya)
      · have hx : x ∈ [ys].flatten := hx
        rw [List.flatten_cons, List.flatten_nil, List.append_nil] at hx
        exact lt2 ys (List.mem_of_getElem? hys) x hx
      · rw [List.flatten_cons, List.flatten_nil, List.append_nil] at ea2
        have fne : f ≠ d := fD.symm
        have efL := o2 _ _ fne (sp _ _ efG)
        have ff2 : f ≠ f2 := ne_of_none (sp _ _ efG) nf2
        have nd2 : (us ++ fs).Nodup := ea2 ▸ nd_addL ndG
        have m2 : ∀ x, x ∈ us ++ fs ↔ x ∈ us ∨ x ∈ ys := fun x => by rw [ea2, mem_addL]
        have len2 : (us ++ fs).length ≤ nx.length := by
          rw [ea2]
          exact addL_lt ndG (fun x hx => clt x (snd x hx)) fun x hx => lt2 ys (List.mem_of_getElem? hys) x hx
        rw [List.length_append] at len2
        refine ⟨.ref f, rfl, .ref f2, rfl, f, f2, _, _, rfl, rfl, efL, ef2, ?_, .int (i : Int), rfl, (i : Int), 1, rfl, rfl, us ++ fs, kvs2, _, ?_, rfl, fun b o e => ?_, ?_, ?_, sd2, nd2, fun x hx => ?_, fun x hx => ?_, fun x y ys' hx hn hy => ?_⟩
        · rw [List.length_map, List.length_map]
          exact Nat.le_trans (show us.length + fs.length ≤ 1000000 by omega) (by decide)
        · rw [List.length_append]
          omega
        · rw [upd_ne (ne_of_none e fH)]
          exact o2 _ _ (ne_of_none e nD) (sp _ _ (sG _ _ e))
        · rw [upd_same]
          exact congrArg (fun z => some (HO.lst z)) (List.map_append ..).symm
        · rw [upd_ne fne.symm]
          exact ed2
        · rcases (m2 x).mp hx with h | h
          · exact snd x h
          · exact .step (snd u (List.mem_of_getElem? hu)) hys h
        · exact (m2 x).mpr (.inl (inc x hx))
        · rw [List.take_append_of_le_length (by omega), take_snoc hu] at hx
          rcases List.mem_append.mp hx with h | h
          · exact (m2 y).mpr (.inl (clo x y ys' h hn hy))
          · rw [List.mem_singleton.mp h, hys] at hn
            cases hn
            exact (m2 y).mpr (.inr hy)
    · have hil : us.length ≤ i := by
        have : ¬ (i : Int) < ((vi us).length : Nat) := fun y => z (decide_eq_true y)
        rw [List.length_map] at this
        omega
      rw [List.take_of_length_le hil] at clo
      refine ⟨.ref f, rfl, q G f us sG fH efG ndG (fun x hx => clt x (snd x hx)) fun x => ⟨snd x, fun h => ?_⟩⟩
      induction h with
      | one h => exact inc _ h
      | step _ hn hy ih => exact clo _ _ _ ih hn hy
end
end LH

namespace LH
open PySem PySem.Spec PyProof.Rows L2
/-! ### views by letters' places -/
inductive GoV (R : Nat → List Nat) (s0 : Nat) : List Nat → Nat → Prop
  | nil : GoV R s0 [] s0
  | stay {v : List Nat} {s t : Nat} : GoV R s0 v s → t ∈ R s → GoV R s0 v t
  | go {v : List Nat} {s t c : Nat} : GoV R s0 v s → (R s)[c]? = some t → GoV R s0 (v ++ [c]) t
def Told (R : Nat → List Nat) (fin : Nat → Bool) (s0 : Nat) (v : List Nat) : Prop := ∃ s, GoV R s0 v s ∧ LdS R fin s
noncomputable def toldB (R : Nat → List Nat) (fin : Nat → Bool) (s0 : Nat) (v : List Nat) : Bool := @decide (Told R fin s0 v) (Classical.propDecidable _)
section
variable {R : Nat → List Nat} {fin : Nat → Bool} {s0 n0 L : Nat} {us : List Nat}
theorem toldB_iff {v : List Nat} : toldB R fin s0 v = true ↔ Told R fin s0 v := by
  unfold toldB
  exact @decide_eq_true_iff _ (Classical.propDecidable _)
theorem gov_rch {v : List Nat} {s : Nat} (h : GoV R s0 v s) : RchS R s0 s := by
  induction h with
  | nil => exact .refl
  | stay _ h ih => exact .step ih h
  | go _ h ih => exact .step ih (List.mem_of_getElem? h)
theorem rch_gov {s : Nat} (h : RchS R s0 s) : GoV R s0 [] s := by
  induction h with
  | refl => exact .nil
  | step _ h ih => exact .stay ih h
theorem snocN_inj {v w : List Nat} {c d : Nat} (h : v ++ [c] = w ++ [d]) : v = w ∧ c = d := by
  obtain ⟨a, b⟩ := List.append_inj' h rfl
  exact ⟨a, by cases b; rfl⟩
theorem gov_pre {w v : List Nat} {c s : Nat} (h : GoV R s0 w s) (e : w = v ++ [c]) (l : LdS R fin s) : Told R fin s0 v := by
  induction h with
  | nil => simp at e
  | stay _ ht ih => exact ih e (.step ht l)
  | go h ht _ =>
    obtain ⟨rfl, rfl⟩ := snocN_inj e
    exact ⟨_, h, .step (List.mem_of_getElem? ht) l⟩
theorem told_pre {v : List Nat} {c : Nat} (h : toldB R fin s0 v = false) : toldB R fin s0 (v ++ [c]) = false := by
  cases e : toldB R fin s0 (v ++ [c]) with
  | false => rfl
  | true =>
    obtain ⟨s, a, b⟩ := toldB_iff.mp e
    rw [toldB_iff.mpr (gov_pre a rfl b)] at h
    cases h
def extI (L : Nat) (v : List Nat) : List (List Nat) := (List.range L).map fun c => v ++ [c]
def rowI (L : Nat) : Nat → List (List Nat)
  | 0 => [[]]
  | m + 1 => (rowI L m).flatMap (extI L)
def shortI (L n : Nat) : List (List Nat) := (List.range (n + 1)).flatMap (rowI L)
theorem shortI_succ (L n : Nat) : shortI L (n + 1) = shortI L n ++ rowI L (n + 1) := by
  unfold shortI
  rw [List.range_succ, List.flatMap_append]
  simp
theorem filter_flat {p : List Nat → Bool} {e : List Nat → List (List Nat)} : ∀ {l : List (List Nat)}, (∀ v ∈ l, p v = false → (e v).filter p = []) → ((l.filter p).flatMap e).filter p = (l.flatMap e).filter p
  | [], _ => rfl
  | v :: l, h => by
    have ih := filter_flat (l := l) fun u hu => h u (List.mem_cons_of_mem _ hu)
    rw [List.flatMap_cons, List.filter_append, List.filter_cons]
    cases q : p v with
    | true =>
      rw [if_pos rfl, List.flatMap_cons, List.filter_append, ih]
    | false =>
      rw [if_neg Bool.false_ne_true, h v List.mem_cons_self q, List.nil_append, ih]
theorem row_told (L m : Nat) : (((rowI L m).filter (toldB R fin s0)).flatMap (extI L)).filter (toldB R fin s0) = (rowI L (m + 1)).filter (toldB R fin s0) := by
  refine filter_flat fun v _ h => ?_
  refine List.filter_eq_nil_iff.mpr fun u hu => ?_
  obtain ⟨c, _, rfl⟩ := List.mem_map.mp hu
  rw [told_pre h]
  exact Bool.false_ne_true
theorem extI_len (v : List Nat) : (extI L v).length = L := by
  unfold extI
  rw [List.length_map, List.length_range]
theorem rowI_len : ∀ m, (rowI L m).length = L ^ m
  | 0 => rfl
  | m + 1 => by
    show ((rowI L m).flatMap (extI L)).length = _
    rw [List.length_flatMap, List.map_congr_left (g := fun _ => L) (fun v _ => extI_len v), List.map_const', List.sum_replicate_nat, rowI_len m, Nat.pow_succ]
theorem rowI_word {m : Nat} : ∀ {v : List Nat}, v ∈ rowI L m → v.length = m ∧ ∀ c ∈ v, c < L := by
  induction m with
  | zero =>
    intro v h
    rw [List.mem_singleton.mp h]
    exact ⟨rfl, fun _ h => nomatch h⟩
  | succ m ih =>
    intro v h
    obtain ⟨u, hu, hv⟩ := List.mem_flatMap.mp h
    obtain ⟨c, hc, rfl⟩ := List.mem_map.mp hv
    obtain ⟨a, b⟩ := ih hu
    refine ⟨by rw [List.length_append, a]; rfl, fun d hd => ?_⟩
    rcases List.mem_append.mp hd with q | q
    · exact b d q
    · rw [List.mem_singleton.mp q]
      exact List.mem_range.mp hc
theorem shortI_len (h1 : 1 ≤ L) {n B : Nat} (h : L ^ n ≤ B) : (shortI L n).length ≤ (n + 1) * B := by
  induction n with
  | zero =>
    show 1 ≤ _
    have : L ^ 0 = 1 := rfl
    omega
  | succ n ih =>
    rw [shortI_succ, List.length_append, rowI_len]
    have := ih (Nat.le_trans (Nat.pow_le_pow_right h1 (Nat.le_succ n)) h)
    rw [Nat.succ_mul (n + 1)]
    omega
/-! ### held numbers -/
def cellU (us : List Nat) (R : Nat → List Nat) (i c : Nat) : List Nat := if (R (us.getD i 0)).getD c 0 ∈ us then [us.idxOf ((R (us.getD i 0)).getD c 0)] else []
def nxU (us : List Nat) (R : Nat → List Nat) (L : Nat) : List (List Nat) := (List.range us.length).map fun i => (List.range L).flatMap fun c => cellU us R i c
def HeldOk (us : List Nat) (R : Nat → List Nat) (s0 : Nat) (v hd : List Nat) : Prop := ∀ i, i ∈ hd ↔ ∃ s, us[i]? = some s ∧ GoV R s0 v s
theorem idx_at (nd : us.Nodup) {x t : Nat} (h : us[x]? = some t) : x = us.idxOf t := by
  obtain ⟨hx, e⟩ := List.getElem?_eq_some_iff.mp h
  have hm : t ∈ us := List.mem_of_getElem? h
  have hl := List.idxOf_lt_length_iff.mpr hm
  refine (List.getElem_inj (h₀ := hx) (h₁ := hl) nd).mp ?_
  rw [e, List.getElem_idxOf]
theorem at_idx {t : Nat} (h : t ∈ us) : us[us.idxOf t]? = some t := by
  have hl := List.idxOf_lt_length_iff.mpr h
  rw [List.getElem?_eq_getElem hl, List.getElem_idxOf]
theorem mem_cellU (uo : UsOk R fin s0 n0 us) (hR : ∀ s, s < n0 → (R s).length = L) {i s c x : Nat} (hs : us[i]? = some s) (hc : c < L) : x ∈ cellU us R i c ↔ ∃ t, (R s)[c]? = some t ∧ us[x]? = some t := by
  have hsl := hR s (uo.lt s (List.mem_of_getElem? hs))
  have e1 : us.getD i 0 = s := by rw [List.getD_eq_getElem?_getD, hs]; rfl
  have hc' := List.getElem?_eq_getElem (l := R s) (i := c) (by omega)
  have e2 : (R s).getD c 0 = (R s)[c]'(by omega) := by rw [List.getD_eq_getElem?_getD, hc']; rfl
  generalize (R s)[c]'(by omega) = t at hc' e2
  unfold cellU
  rw [e1, e2]
  constructor
  · intro h
    by_cases q : t ∈ us
    · rw [if_pos q] at h
      rw [List.mem_singleton.mp h]
      exact ⟨t, hc', at_idx q⟩
    · rw [if_neg q] at h
      cases h
  · rintro ⟨t', a, b⟩
    rw [hc'] at a
    cases a
    rw [if_pos (List.mem_of_getElem? b)]
    exact List.mem_singleton.mpr (idx_at uo.nd b)
theorem cellU_lt {i c x : Nat} (h : x ∈ cellU us R i c) : x < us.length := by
  unfold cellU at h
  by_cases q : (R (us.getD i 0)).getD c 0 ∈ us
  · rw [if_pos q] at h
    rw [List.mem_singleton.mp h]
    exact List.idxOf_lt_length_iff.mpr q
  · rw [if_neg q] at h
    cases h
theorem cellU_len {i c : Nat} : (cellU us R i c).length ≤ 1 := by
  unfold cellU
  by_cases q : (R (us.getD i 0)).getD c 0 ∈ us
  · rw [if_pos q]
    exact Nat.le_refl _
  · rw [if_neg q]
    exact Nat.zero_le _
theorem nxU_at {i : Nat} (h : i < us.length) : (nxU us R L)[i]? = some ((List.range L).flatMap fun c => cellU us R i c) := by
  unfold nxU
  rw [List.getElem?_map, List.getElem?_range h]
  rfl
theorem nxU_len : (nxU us R L).length = us.length := by
  unfold nxU
  rw [List.length_map, List.length_range]
theorem spread_ok (uo : UsOk R fin s0 n0 us) (hR : ∀ s, s < n0 → (R s).length = L) {v hd : List Nat} (ho : HeldOk us R s0 v hd) {c : Nat} (hc : c < L) (x : Nat) :
    CloN (nxU us R L) (hd.map fun i => cellU us R i c).flatten x ↔ ∃ s, us[x]? = some s ∧ GoV R s0 (v ++ [c]) s := by
  constructor
  · intro h
    induction h with
    | one h =>
      obtain ⟨ys, h1, h2⟩ := List.mem_flatten.mp h
      obtain ⟨i, hi, rfl⟩ := List.mem_map.mp h1
      obtain ⟨s, hs, g⟩ := (ho i).mp hi
      obtain ⟨t, a, b⟩ := (mem_cellU uo hR hs hc).mp h2
      exact ⟨t, b, .go g a⟩
    | step _ hn hy ih =>
      obtain ⟨s, hs, g⟩ := ih
      rw [nxU_at (List.getElem?_eq_some_iff.mp hs).1] at hn
      cases hn
      obtain ⟨d, hd', h2⟩ := List.mem_flatMap.mp hy
      obtain ⟨t, a, b⟩ := (mem_cellU uo hR hs (List.mem_range.mp hd')).mp h2
      exact ⟨t, b, .stay g (List.mem_of_getElem? a)⟩
  · rintro ⟨s, hs, g⟩
    have hin := List.mem_of_getElem? hs
    have back : ∀ {s' t w}, GoV R s0 w s' → t ∈ R s' → t ∈ us → s' ∈ us := fun g h1 h2 => (uo.mem _).mpr ⟨gov_rch g, .step h1 ((uo.mem _).mp h2).2⟩
    generalize hw : v ++ [c] = w at g
    induction g generalizing x with
    | nil => simp at hw
    | stay g ht ih =>
      have q := back g ht hin
      have ihx := ih _ (at_idx q) q hw
      obtain ⟨d, hd'⟩ := List.mem_iff_getElem?.mp ht
      have hdl := (List.getElem?_eq_some_iff.mp hd').1
      rw [hR _ (uo.lt _ q)] at hdl
      refine .step ihx (nxU_at (List.idxOf_lt_length_iff.mpr q)) (List.mem_flatMap.mpr ⟨d, List.mem_range.mpr hdl, ?_⟩)
      exact (mem_cellU uo hR (at_idx q) hdl).mpr ⟨_, hd', hs⟩
    | go g ht _ =>
      obtain ⟨rfl, rfl⟩ := snocN_inj hw
      have q := back g (List.mem_of_getElem? ht) hin
      exact .one (List.mem_flatten.mpr ⟨_, List.mem_map.mpr ⟨_, (ho _).mpr ⟨_, at_idx q, g⟩, rfl⟩, (mem_cellU uo hR (at_idx q) hc).mpr ⟨_, ht, hs⟩⟩)
theorem held0 (uo : UsOk R fin s0 n0 us) : HeldOk us R s0 [] (List.range us.length) := fun i => by
  rw [List.mem_range]
  constructor
  · intro h
    exact ⟨us[i], List.getElem?_eq_getElem h, rch_gov ((uo.mem _).mp (List.getElem_mem h)).1⟩
  · rintro ⟨s, h, _⟩
    exact (List.getElem?_eq_some_iff.mp h).1
theorem told_held (uo : UsOk R fin s0 n0 us) {v hd : List Nat} (ho : HeldOk us R s0 v hd) : Told R fin s0 v ↔ hd ≠ [] := by
  constructor
  · rintro ⟨s, g, l⟩ e
    have q := (uo.mem s).mpr ⟨gov_rch g, l⟩
    have := (ho _).mpr ⟨s, at_idx q, g⟩
    rw [e] at this
    cases this
  · intro e
    obtain ⟨i, hi⟩ := List.exists_mem_of_ne_nil _ e
    obtain ⟨s, hs, g⟩ := (ho i).mp hi
    exact ⟨s, g, ((uo.mem s).mp (List.mem_of_getElem? hs)).2⟩
theorem told_none (uo : UsOk R fin s0 n0 []) (v : List Nat) : toldB R fin s0 v = false := by
  cases e : toldB R fin s0 v with
  | false => rfl
  | true =>
    obtain ⟨s, g, l⟩ := toldB_iff.mp e
    have q := (uo.mem s).mpr ⟨gov_rch g, l⟩
    cases q
end
end LH

namespace LH
open PySem PySem.Spec PyProof.Rows L2
theorem txt_lenV (y : List Nat) : (txt y).length = y.length := List.size_toArray
def tI (z : Str) (v : List Nat) : Str := txt (v.map fun c => z.cps.toList.getD c 0)
theorem tI_snoc (z : Str) (v : List Nat) (c : Nat) : tI z v ++ sg (z.cps.toList.getD c 0) = tI z (v ++ [c]) := by
  unfold tI
  rw [txt_snoc, List.map_append]
  rfl
theorem tI_len (z : Str) (v : List Nat) : (tI z v).length = v.length := by
  unfold tI
  rw [txt_lenV, List.length_map]
def CellsW (H : Hp) (wa : Addr) (cas : List Addr) (us : List Nat) (L : Nat) (R : Nat → List Nat) : Prop := H wa = some (.lst (vr cas)) ∧ cas.length = L ∧ ∀ (c : Nat) (ca : Addr), cas[c]? = some ca → ∃ xs : List Addr, H ca = some (.lst (vr xs)) ∧ xs.length = us.length ∧ ∀ (i : Nat) (x : Addr), xs[i]? = some x → H x = some (.lst (vi (cellU us R i c)))
theorem WaysAt.cells {H : Hp} {wa : Addr} {us : List Nat} {L n0 s0 : Nat} {R : Nat → List Nat} {fin : Nat → Bool} (h : WaysAt H wa us L R) (uo : UsOk R fin s0 n0 us) (hR : ∀ s, s < n0 → (R s).length = L) : ∃ cas, CellsW H wa cas us L R := by
  obtain ⟨cas, a, b, h⟩ := h
  refine ⟨cas, a, b, fun c ca hc => ?_⟩
  obtain ⟨xs, x1, x2, x3⟩ := h c ca hc
  refine ⟨xs, x1, x2, fun i x hx => ?_⟩
  have hi := (List.getElem?_eq_some_iff.mp hx).1
  have hs := List.getElem?_eq_getElem (l := us) (i := i) (by omega)
  have hsl := hR _ (uo.lt _ (List.getElem_mem (l := us) (n := i) (by omega)))
  have e1 : us.getD i 0 = us[i]'(by omega) := by rw [List.getD_eq_getElem?_getD, hs]; rfl
  generalize us[i]'(by omega) = s at hs hsl e1
  have hcl := (List.getElem?_eq_some_iff.mp hc).1
  have ht := List.getElem?_eq_getElem (l := R s) (i := c) (by omega)
  have e2 : (R s).getD c 0 = (R s)[c]'(by omega) := by rw [List.getD_eq_getElem?_getD, ht]; rfl
  generalize (R s)[c]'(by omega) = t at ht e2
  have := x3 i x s t hx hs ht
  unfold cellU
  rw [e1, e2]
  exact this
def ItemAt (H : Hp) (z : Str) (X : Addr → Prop) (p : Addr) (q : List Nat × List Nat) : Prop := ∃ ha, ¬ X ha ∧ H p = some (.tup [.str (tI z q.1), .ref ha]) ∧ H ha = some (.lst (vi q.2))
def ItemsAt (H : Hp) (z : Str) (X : Addr → Prop) (ps : List Addr) (qs : List (List Nat × List Nat)) : Prop := ps.length = qs.length ∧ ∀ (k : Nat) (p : Addr) (q : List Nat × List Nat), ps[k]? = some p → qs[k]? = some q → ItemAt H z X p q
theorem ItemAt.mono {H H' : Hp} {z : Str} {X X' : Addr → Prop} {p : Addr} {q : List Nat × List Nat} (t : Tups H H') (l : ∀ b xs, ¬ X b → H b = some (.lst xs) → ¬ X' b ∧ H' b = some (.lst xs)) (h : ItemAt H z X p q) : ItemAt H' z X' p q := by
  obtain ⟨ha, a, b, c⟩ := h
  obtain ⟨d, e⟩ := l _ _ a c
  exact ⟨ha, d, t _ _ b, e⟩
theorem ItemsAt.mono {H H' : Hp} {z : Str} {X X' : Addr → Prop} {ps : List Addr} {qs : List (List Nat × List Nat)} (t : Tups H H') (l : ∀ b xs, ¬ X b → H b = some (.lst xs) → ¬ X' b ∧ H' b = some (.lst xs)) (h : ItemsAt H z X ps qs) : ItemsAt H' z X' ps qs := ⟨h.1, fun k p q a b => (h.2 k p q a b).mono t l⟩
theorem ItemsAt.snoc {H : Hp} {z : Str} {X : Addr → Prop} {ps : List Addr} {qs : List (List Nat × List Nat)} {p : Addr} {q : List Nat × List Nat} (h : ItemsAt H z X ps qs) (g : ItemAt H z X p q) : ItemsAt H z X (ps ++ [p]) (qs ++ [q]) := by
  refine ⟨by rw [List.length_append, List.length_append, h.1]; rfl, fun i b r x y => ?_⟩
  by_cases hi : i < ps.length
  · rw [List.getElem?_append_left hi] at x
    rw [List.getElem?_append_left (by rw [← h.1]; exact hi)] at y
    exact h.2 i b r x y
  · rw [List.getElem?_append_right (by omega)] at x
    rw [List.getElem?_append_right (by rw [← h.1]; omega), ← h.1] at y
    have e : i - ps.length = 0 := by
      cases q : i - ps.length with
      | zero => rfl
      | succ k =>
        rw [q] at x
        simp at x
    rw [e] at x y
    cases x
    cases y
    exact g
theorem LstsAt.snoc {H : Hp} {as : List Addr} {nss : List (List Nat)} {a : Addr} {ns : List Nat} (h : LstsAt H as nss) (g : H a = some (.lst (vi ns))) : LstsAt H (as ++ [a]) (nss ++ [ns]) := by
  refine ⟨by rw [List.length_append, List.length_append, h.1]; rfl, fun i b r x y => ?_⟩
  by_cases hi : i < as.length
  · rw [List.getElem?_append_left hi] at x
    rw [List.getElem?_append_left (by rw [← h.1]; exact hi)] at y
    exact h.2 i b r x y
  · rw [List.getElem?_append_right (by omega)] at x
    rw [List.getElem?_append_right (by rw [← h.1]; omega), ← h.1] at y
    have e : i - as.length = 0 := by
      cases q : i - as.length with
      | zero => rfl
      | succ k =>
        rw [q] at x
        simp at x
    rw [e] at x y
    cases x
    cases y
    exact g
/-! ### an inner loop of a comprehension, and the outer one -/
section
variable {J : It} {n : Nat} {G : Hp → Prop} {Y : Nat → Hp → V → Hp → Prop} {g : TG} {tt : TT} {te : TE} {vs : List Nat} {σ : L2.St} {D : Addr}
def InL (J : It) (g : TG) (tt : TT) (te : TE) (vs : List Nat) (σ : L2.St) (D : Addr) (H0 : Hp) (N : Hp → Prop) : Prop :=
  ∃ W : Nat → Nat → Hp → Prop, (∃ m, W 0 m H0) ∧ ∀ j k H, W j k H → (J.stop j H ∧ N H) ∨ (J.go j H ∧ ∃ N1 : Hp → Prop, (∀ H', N1 H' → ∃ k', k' < k ∧ W (j + 1) k' H') ∧
    ∀ x H', J.yld j H x H' → g x (wipe σ vs) H' fun σ3 H5 => wipe σ3 vs = wipe σ vs ∧ tt σ3 H5 fun b H6 =>
      if b = true then te σ3 H6 fun y H7 => ∃ acc, H7 D = some (.lst acc) ∧ acc.length < sizeLine ∧ N1 (upd H7 D (.lst (acc ++ [y]))) else N1 H6)
theorem lc_in (wk : Walk J n G Y) {H0 : Hp} {N : Hp → Prop} (Pv : Nat → Hp → Prop) (h0 : Pv 0 H0) (hG : ∀ i H, i ≤ n → Pv i H → G H)
    (hs : ∀ i x H H', i < n → Pv i H → Y i H x H' → g x (wipe σ vs) H' fun σ3 H5 => wipe σ3 vs = wipe σ vs ∧ tt σ3 H5 fun b H6 =>
      if b = true then te σ3 H6 fun y H7 => ∃ acc, H7 D = some (.lst acc) ∧ acc.length < sizeLine ∧ Pv (i + 1) (upd H7 D (.lst (acc ++ [y]))) else Pv (i + 1) H6) (hd : ∀ H, Pv n H → N H) : InL J g tt te vs σ D H0 N := by
  refine ⟨fun i m H => m + i = n ∧ Pv i H, ⟨n, rfl, h0⟩, fun i m H hW => ?_⟩
  obtain ⟨e, p⟩ := hW
  have q := hG i H (by omega) p
  cases m with
  | zero =>
    obtain rfl : i = n := by omega
    exact .inl ⟨wk.stops H q, hd H p⟩
  | succ m =>
    have lt : i < n := by omega
    exact .inr ⟨wk.goes i H lt q, Pv (i + 1), fun H' p' => ⟨m, Nat.lt_succ_self _, by omega, p'⟩, fun x H' y => hs i x H H' lt p (wk.yields i H x H' lt q y)⟩
theorem lc2_it (wk : Walk J n G Y) {wi1 : TI} {g1 : TG} {tt1 : TT} {vs1 : List Nat} {H1 : Hp} {Q : Hp → Prop} (Pv : Nat → Hp → Prop) (h0 : Pv 0 (upd H1 D (.lst []))) (hG : ∀ i H, i ≤ n → Pv i H → G H)
    (hs : ∀ i x H H', i < n → Pv i H → Y i H x H' → g x (wipe σ vs) H' fun σ2 H2 => wipe σ2 vs = wipe σ vs ∧ tt σ2 H2 fun b H3 =>
      if b = true then wi1 σ2 H3 fun J1 H4 => InL J1 g1 tt1 te vs1 σ2 D H4 (Pv (i + 1)) else Pv (i + 1) H3) (hd : ∀ H, Pv n H → Q H) :
    ∃ W : Nat → Nat → Hp → Prop, (∃ m, W 0 m (upd H1 D (.lst []))) ∧ ∀ i m H, W i m H →
      (J.stop i H ∧ Q H) ∨ (J.go i H ∧ ∃ N : Hp → Prop, (∀ H', N H' → ∃ m', m' < m ∧ W (i + 1) m' H') ∧ ∀ x H', J.yld i H x H' → g x (wipe σ vs) H' fun σ2 H2 => wipe σ2 vs = wipe σ vs ∧ tt σ2 H2 fun b H3 =>
        if b = true then wi1 σ2 H3 fun J1 H4 => InL J1 g1 tt1 te vs1 σ2 D H4 N else N H3) := by
  refine ⟨fun i m H => m + i = n ∧ Pv i H, ⟨n, rfl, h0⟩, fun i m H hW => ?_⟩
  obtain ⟨e, p⟩ := hW
  have q := hG i H (by omega) p
  cases m with
  | zero =>
    obtain rfl : i = n := by omega
    exact .inl ⟨wk.stops H q, hd H p⟩
  | succ m =>
    have lt : i < n := by omega
    exact .inr ⟨wk.goes i H lt q, Pv (i + 1), fun H' p' => ⟨m, Nat.lt_succ_self _, by omega, p'⟩, fun x H' y => hs i x H H' lt p (wk.yields i H x H' lt q y)⟩
end
section
variable {P : Program} {w : World} {K : PySem.W.Frag} {mg : Str → Option Value} {base : Heap}
def sp_views_of_ways : Sp := fun vs H Q _ => ∃ (z : Str) (wa : Addr) (n L s0 n0 : Nat) (us : List Nat) (R : Nat → List Nat) (fin : Nat → Bool), vs = [.str z, .ref wa, .int (n : Int)] ∧ WaysAt H wa us L R ∧ UsOk R fin s0 n0 us ∧ (∀ s, s < n0 → (R s).length = L) ∧ z.length = L ∧ 1 ≤ L ∧ L ≤ 5 ∧ n0 ≤ 100000 ∧ L ^ n ≤ 1000 ∧ n ≤ 10 ∧
  ∀ H' p, Same H H' → H p = none → H' p = some (.lst (vS (((shortI L n).filter (toldB R fin s0)).map (tI z)))) → Q (.ref p) H'
theorem ok_views_of_ways (T : TX K mg) : FnOk P w K mg base CX0 3 T.a_views_of_ways T.fd_views_of_ways ["letters", "ways", "size"] sp_views_of_ways := by
  have G_spread : FnOk P w K mg base CX0 2 T.a_spread T.fd_spread ["lists", "nexts"] sp_spread := ok_spread T
  refine T.F_views_of_ways.ok sc_views_of_ways (fun vs H Q E h => ?_) (fun cdv A outer s H vs Q E hr h => ?_)
  · obtain ⟨z, wa, n, L, s0, n0, us, R, fin, rfl, _⟩ := h
    rfl
  · obtain ⟨z, wa, n, L, s0, n0, us, R, fin, rfl, hw, uo, hR, zl, hL1, hL5, hn0, hpw, hn, q⟩ := h
    refine ⟨_, (pss_cons (ps_set (i := 3) sc_views_of_ways.nd rfl (Or.inl rfl) (pe_callB (call_lenK K rfl) (by rfl) T.m_len (by decide +kernel) (pa_cons (pe_ix (ix_listK K rfl) (pv 1) pe_int (fun _ _ => rfl)) pa_nil)))
      (pss_cons (ps_if (pt_cmpR op_eq (pv 3) pe_int (nomark _))
        (pss_one (ps_ret (pe_lst pa_nil)))
        pss_nil)
      (pss_cons (ps_setLc (i := 4) (own := [("number", 14)]) (g := gName 14) (tt := tYes) (by rfl) sc_views_of_ways.nd rfl rfl (sw_true rfl rfl rfl (by decide +kernel)) (pi_range1 (by rfl) T.m_range (pa_cons (pv 3) pa_nil)) (blkOk_by (own := [("number", 14)]) (N := N_views_of_ways) (by kernel_rfl)) (fun _ _ _ _ _ => (pg_name (i := 14) sc_views_of_ways.nd rfl (by first | exact Or.inl rfl | exact Or.inr rfl))) (fun _ _ _ _ _ => pts_nil) (fun _ _ _ _ _ => (pe_lc2 (own := [("column", 12), ("target", 15)]) (vs1 := [15]) (g := gName 12) (g1 := gName 15) (tt := tYes) (tt1 := tYes) (by rfl) sc_views_of_ways.nd (pi_listK K rfl (pv 1)) (blkOk_by (own := [("column", 12), ("target", 15)]) (N := N_views_of_ways) (by kernel_rfl)) (by decide) (fun _ _ _ _ _ => (pg_name (i := 12) sc_views_of_ways.nd rfl (by first | exact Or.inl rfl | exact Or.inr rfl))) (fun _ _ _ _ _ => pts_nil) (fun _ _ _ _ _ => (pi_listK K rfl (pe_ix (ix_listK K rfl) (pv 12) (pv 14) (fun _ _ => rfl)))) (fun _ _ _ _ _ => (pg_name (i := 15) sc_views_of_ways.nd rfl (by first | exact Or.inl rfl | exact Or.inr rfl))) (fun _ _ _ _ _ => pts_nil) (fun _ _ _ _ _ => (pv 15)))))
      (pss_cons (ps_set (i := 5) sc_views_of_ways.nd rfl (Or.inl rfl) (pe_lst (pa_cons pe_str pa_nil)))
      (pss_cons (ps_set (i := 6) sc_views_of_ways.nd rfl (Or.inl rfl) (pe_lst (pa_cons (pe_tup (pa_cons pe_str (pa_cons (pe_listRg (by rfl) (by rfl) T.m_list (prg_1 (by rfl) T.m_range (pv 3))) pa_nil))) pa_nil)))
      (pss_cons (ps_for PassesOwn.never rfl (pi_range1 (by rfl) T.m_range (pa_cons (pv 2) pa_nil)) (pg_name (i := 7) sc_views_of_ways.nd rfl (Or.inl rfl))
        (pss_cons (ps_set (i := 8) sc_views_of_ways.nd rfl (Or.inl rfl) (pe_lst pa_nil))
          (pss_cons (ps_for PassesOwn.never rfl (pi_listK K rfl (pv 6)) (pg_tupK (n := 2) K rfl (by rfl) (pgs_cons (pg_name (i := 9) sc_views_of_ways.nd rfl (Or.inl rfl)) (pgs_cons (pg_name (i := 10) sc_views_of_ways.nd rfl (Or.inl rfl)) pgs_nil)))
            (pss_one (ps_for PassesOwn.never rfl (pi_zipZL K rfl (by rfl) T.m_zip (pa_cons (pv 0) (pa_cons (pv 1) pa_nil))) (pg_tupK (n := 2) K rfl (by rfl) (pgs_cons (pg_name (i := 11) sc_views_of_ways.nd rfl (Or.inl rfl)) (pgs_cons (pg_name (i := 12) sc_views_of_ways.nd rfl (Or.inr rfl)) pgs_nil)))
                (pss_cons (ps_set (i := 13) sc_views_of_ways.nd rfl (Or.inl rfl) (pe_call G_spread (hr.mono (by decide)) (by rfl) T.g_spread T.F_spread.kp T.b_spread .nil pass0 (pa_cons (pe_lc (own := [("number", 14)]) (g := gName 14) (tt := tYes) (by rfl) sc_views_of_ways.nd (pi_listK K rfl (pv 10)) (blkOk_by (own := [("number", 14)]) (N := N_views_of_ways) (by kernel_rfl)) (fun _ _ _ _ _ => (pg_name (i := 14) sc_views_of_ways.nd rfl (by first | exact Or.inl rfl | exact Or.inr rfl))) (fun _ _ _ _ _ => pts_nil) (fun _ _ _ _ _ => (pe_ix (ix_listK K rfl) (pv 12) (pv 14) (fun _ _ => rfl)))) (pa_cons (pv 4) pa_nil))))
                  (pss_one (ps_if (pt_cmpR op_gt (pe_callB (call_lenK K rfl) (by rfl) T.m_len (by decide +kernel) (pa_cons (pv 13) pa_nil)) pe_int (nomark _))
                    (pss_one (ps_expr (pe_bmK K rfl PySem.F.plainAttrs_list PySem.F.slot_list_append PySem.F.type_list_append mt_append (pv 8) (pa_cons (pe_tup (pa_cons (pe_op op_add_str (pv 9) (pv 11)) (pa_cons (pv 13) pa_nil))) pa_nil))))
                    pss_nil))))))
          (pss_cons (ps_aug (i := 5) sc_views_of_ways.nd rfl (Or.inl rfl) (pe_lc (own := [("view", 9), ("held", 10)]) (tt := tYes) (by rfl) sc_views_of_ways.nd (pi_listK K rfl (pv 8)) (blkOk_by (own := [("view", 9), ("held", 10)]) (N := N_views_of_ways) (by kernel_rfl)) (fun _ _ _ _ _ => (pg_tupK (n := 2) K rfl (by rfl) (pgs_cons (pg_name (i := 9) sc_views_of_ways.nd rfl (Or.inl rfl)) (pgs_cons (pg_name (i := 10) sc_views_of_ways.nd rfl (Or.inl rfl)) pgs_nil)))) (fun _ _ _ _ _ => pts_nil) (fun _ _ _ _ _ => (pv 9))) iop_ext)
          (pss_one (ps_set (i := 6) sc_views_of_ways.nd rfl (Or.inl rfl) (pv 8)))))))
      (pss_one (ps_ret (pv 5))))))))), ?_⟩
    have sl : ∀ m, m ≤ 1000000 → m < sizeLine := fun m hm => Nat.lt_of_le_of_lt hm (by decide)
    obtain ⟨cas, ewa, lc, cw⟩ := hw.cells uo hR
    have lenU : us.length ≤ n0 := by
      have := len_le_of_sub uo.nd (ys := List.range n0) fun x hx => List.mem_range.mpr (uo.lt x hx)
      rwa [List.length_range] at this
    have hc0 := List.getElem?_eq_getElem (l := cas) (i := 0) (by omega)
    generalize cas[0]'(by omega) = ca0 at hc0
    obtain ⟨xs0, exs0, lxs0, _⟩ := cw 0 ca0 hc0
    -- many
    refine ⟨.ref wa, rfl, wa, _, 0, .ref ca0, rfl, rfl, .inl (.inl ewa), atI_nat (j := 0) (vr_get hc0), ca0, _, rfl, .inl (.inl (.inl exs0)), ?_⟩
    rw [List.length_map, lxs0]
    refine ⟨.int ((us.length : Nat) : Int), rfl, rfl, _, rfl, ite2 (fun z0 => ?_) (fun z0 => ?_)⟩
    · have e0 : us = [] := by
        have := V.int.inj (of_decide_eq_true z0)
        exact List.length_eq_zero_iff.mp (by omega)
      subst e0
      refine ⟨by show 0 ≤ sizeLine; decide, fun p np => q _ p (same_new np) np ?_⟩
      rw [upd_same, List.filter_eq_nil_iff.mpr fun v _ => by rw [told_none uo v]; exact Bool.false_ne_true]
      rfl
    have hU : 0 < us.length := by
      have : ¬ (V.int ((us.length : Nat) : Int) = V.int 0) := fun y => z0 (decide_eq_true y)
      exact Nat.pos_of_ne_zero fun e => this (by rw [e]; rfl)
    -- nexts
    refine ⟨.int ((us.length : Nat) : Int), rfl, _, rfl, by omega, by omega, fun nA nnA => ?_⟩
    refine lc_range (lo := 0) (n := ((us.length : Nat) : Int).toNat) (fun i G => Same H G ∧ ∃ nas : List Addr, (∀ a ∈ nas, a ≠ nA) ∧ G nA = some (.lst (vr nas)) ∧ LstsAt G nas ((nxU us R L).take i)) ⟨same_new nnA, [], (fun _ h => nomatch h), upd_same, rfl, fun i a ns e => by simp at e⟩ (fun i G1 hi hW => ?_) (fun H1 hW => ?_)
    · obtain ⟨sG, nas, ne, eA, la⟩ := hW
      rw [Int.toNat_natCast] at hi
      have e0 : (0 : Int) + (i : Int) = (i : Int) := Int.zero_add _
      refine ⟨rfl, lcyes ?_⟩
      refine ⟨.ref wa, rfl, wa, rfl, ⟨_, .inl (.inl (sG _ _ ewa))⟩, fun D nD => ?_⟩
      refine lc2_it (walk_list (K := K) (a := wa) (xs := vr cas)) (fun c G => G = upd G1 D (.lst (vi ((List.range c).flatMap fun c => cellU us R i c)))) rfl (fun c G _ hW => by rw [hW]; exact .inl (.inl (same_new nD _ _ (sG _ _ ewa)))) (fun c x G2 G2' hc hW hY => ?_) (fun G2 hW => ?_)
      · subst hW
        obtain ⟨rfl, hx⟩ := hY
        obtain ⟨ca, hca, rfl⟩ := vr_at hx
        rw [List.length_map, lc] at hc
        obtain ⟨xs, exs, lxs, cx⟩ := cw c ca hca
        have hxi := List.getElem?_eq_getElem (l := xs) (i := i) (by omega)
        generalize xs[i]'(by omega) = x at hxi
        have ex := cx i x hxi
        have sD := same_new (o := .lst (vi ((List.range c).flatMap fun c => cellU us R i c))) nD
        refine ⟨rfl, lcyes ?_⟩
        refine ⟨.ref ca, rfl, .int (0 + (i : Int)), rfl, ca, _, 0 + (i : Int), .ref x, rfl, rfl, .inl (.inl (sD _ _ (sG _ _ exs))), by rw [e0]; exact atI_nat (vr_get hxi), x, rfl, ⟨_, .inl (.inl (sD _ _ (sG _ _ ex)))⟩, ?_⟩
        have lpre : ((List.range c).flatMap fun c => cellU us R i c).length ≤ c := by
          rw [List.length_flatMap]
          have : ∀ l : List Nat, (l.map fun c => (cellU us R i c).length).sum ≤ l.length := fun l => by
            induction l with
            | nil => exact Nat.le_refl _
            | cons a l ih =>
              have := cellU_len (us := us) (R := R) (i := i) (c := a)
              rw [List.map_cons, List.sum_cons, List.length_cons]
              omega
          have := this (List.range c)
          rwa [List.length_range] at this
        refine lc_in (walk_list (K := K) (a := x) (xs := vi (cellU us R i c))) (fun j G => G = upd G1 D (.lst (vi ((List.range c).flatMap (fun c => cellU us R i c) ++ (cellU us R i c).take j)))) (by rw [List.take_zero, List.append_nil]) (fun j G _ hW => by rw [hW]; exact .inl (.inl (same_new nD _ _ (sG _ _ ex)))) (fun j y G3 G3' hj hW hY => ?_) (fun G3 hW => ?_)
        · subst hW
          obtain ⟨rfl, hy⟩ := hY
          obtain ⟨u, hu, rfl⟩ := int_at hy
          have c1 := cellU_len (us := us) (R := R) (i := i) (c := c)
          refine ⟨rfl, lcyes ⟨.int (u : Int), rfl, _, upd_same, ?_, ?_⟩⟩
          · rw [List.length_map, List.length_append, List.length_take]
            exact sl _ (by omega)
          · rw [upd_upd, vi_snoc, take_snoc hu, List.append_assoc]
        · rw [List.length_map, List.take_of_length_le (Nat.le_refl _)] at hW
          rw [hW, List.range_succ, List.flatMap_append]
          simp
      · rw [List.length_map, lc] at hW
        subst hW
        have nDA : nA ≠ D := ne_of_none eA nD
        have sD := same_new (o := .lst (vi ((List.range L).flatMap fun c => cellU us R i c))) nD
        have la2 := la.mono fun b xs e => sD _ _ e
        refine ⟨vr nas, sD _ _ eA, ?_, ?_, nas ++ [D], mem_snoc ne nDA.symm, by rw [upd_same, vr_snoc], ?_⟩
        · rw [List.length_map, la.1, List.length_take]
          exact sl _ (by omega)
        · intro b o e
          rw [upd_ne (ne_of_none e nnA)]
          exact sD _ _ (sG _ _ e)
        · rw [take_snoc (nxU_at hi)]
          have l3 : LstsAt (upd G1 D (.lst (vi ((List.range L).flatMap fun c => cellU us R i c)))) (nas ++ [D]) ((nxU us R L).take i ++ [(List.range L).flatMap fun c => cellU us R i c]) := la2.snoc upd_same
          refine ⟨l3.1, fun k a ns x y => ?_⟩
          rw [upd_ne (mem_snoc ne nDA.symm a (List.mem_of_getElem? x))]
          exact l3.2 k a ns x y
    obtain ⟨sm1, nas, _, enA, lnA⟩ := hW
    rw [Int.toNat_natCast, List.take_of_length_le (by rw [nxU_len]; exact Nat.le_refl _)] at lnA
    -- views
    refine ⟨by show 1 ≤ sizeLine; decide, fun vp nvp => ?_⟩
    have fvp : H vp = none := sm1.free nvp
    have s2 := same_new (o := .lst [.str (Str.ofString "")]) nvp
    have evp : (upd H1 vp (.lst [.str (Str.ofString "")])) vp = some (.lst (vS [tI z []])) := upd_same
    have sm2 := sm1.trans s2
    have enA2 := s2 _ _ enA
    have lnA2 := lnA.mono fun b xs e => s2 _ _ e
    generalize upd H1 vp (.lst [.str (Str.ofString "")]) = H2 at s2 evp sm2 enA2 lnA2
    -- newest
    refine ⟨.int ((us.length : Nat) : Int), rfl, ((us.length : Nat) : Int), rfl, ⟨by omega, by omega, by omega, by omega, by omega⟩, fun hp nhp => ?_⟩
    have s3 := same_new (o := .lst (rgV 0 ((us.length : Nat) : Int))) nhp
    refine ⟨by show 2 ≤ sizeLine; decide, fun tp ntp => ?_⟩
    have s4 := same_new (o := .tup [.str (Str.ofString ""), .ref hp]) ntp
    refine ⟨by show 1 ≤ sizeLine; decide, fun np nnp => ?_⟩
    have s5 := same_new (o := .lst [.ref tp]) nnp
    have s25 := (s3.trans s4).trans s5
    have ehp : (upd H2 hp (.lst (rgV 0 ((us.length : Nat) : Int)))) hp = some (.lst (vi (List.range us.length))) := by
      rw [upd_same]
      refine congrArg (fun z => some (HO.lst z)) ?_
      unfold rgV
      rw [Int.sub_zero, Int.toNat_natCast]
      exact List.map_congr_left fun i _ => congrArg V.int (Int.zero_add _)
    have vph : hp ≠ vp := (ne_of_none evp nhp).symm
    have nvp2 : np ≠ vp := (ne_of_none (s4 _ _ (s3 _ _ evp)) nnp).symm
    have it0 : ItemsAt (upd (upd (upd H2 hp (.lst (rgV 0 ((us.length : Nat) : Int)))) tp (.tup [.str (Str.ofString ""), .ref hp])) np (.lst [.ref tp])) z (fun b => b = vp) [tp] [([], List.range us.length)] := ⟨rfl, fun k p q x y => by
      have hk := (List.getElem?_eq_some_iff.mp x).1
      have hk : k < 1 := hk
      obtain rfl : k = 0 := by omega
      cases x
      cases y
      exact ⟨hp, vph, s5 _ _ upd_same, s5 _ _ (s4 _ _ ehp)⟩⟩
    have enp : (upd (upd (upd H2 hp (.lst (rgV 0 ((us.length : Nat) : Int)))) tp (.tup [.str (Str.ofString ""), .ref hp])) np (.lst [.ref tp])) np = some (.lst (vr [tp])) := upd_same
    have evp5 := s25 _ _ evp
    have sm5 := sm2.trans s25
    have enA5 := s25 _ _ enA2
    have lnA5 := lnA2.mono fun b xs e => s25 _ _ e
    generalize upd (upd (upd H2 hp (.lst (rgV 0 ((us.length : Nat) : Int)))) tp (.tup [.str (Str.ofString ""), .ref hp])) np (.lst [.ref tp]) = H5 at it0 enp evp5 sm5 enA5 lnA5
    have nAv : nA ≠ vp := ne_of_none enA nvp
    have told0 : toldB R fin s0 [] = true := toldB_iff.mpr ((told_held uo (held0 uo)).mpr fun e => by
      have : (List.range us.length).length = 0 := by rw [e]; rfl
      rw [List.length_range] at this
      omega)
    have lnAv : ∀ a ∈ nas, a ≠ vp := fun a ha => by
      obtain ⟨k, hk⟩ := List.mem_iff_getElem?.mp ha
      have hkl := (List.getElem?_eq_some_iff.mp hk).1
      rw [lnA.1] at hkl
      exact ne_of_none (lnA.2 k a _ hk (List.getElem?_eq_getElem hkl)) nvp
    -- for turn in range(size)
    refine ⟨.int (n : Int), rfl, (n : Int), rfl, by omega, by omega, ?_⟩
    refine for_range (lo := 0) (n := (n : Int).toNat) (fun t σ G => (∀ b o, b ≠ vp → H5 b = some o → G b = some o) ∧ (∃ (np : Addr) (ps : List Addr) (qs : List (List Nat × List Nat)) (y7 y8 y9 y10 y11 y12 y13 : Option V), np ≠ vp ∧ G np = some (.lst (vr ps)) ∧ ItemsAt G z (fun b => b = vp) ps qs ∧ qs.map (·.1) = (rowI L t).filter (toldB R fin s0) ∧ (∀ q ∈ qs, HeldOk us R s0 q.1 q.2 ∧ q.2.length ≤ 100000) ∧ σ = [some (.str z), some (.ref wa), some (.int (n : Int)), some (.int ((us.length : Nat) : Int)), some (.ref nA), some (.ref vp), some (.ref np), y7, y8, y9, y10, y11, y12, y13, none, none]) ∧ G vp = some (.lst (vS (((shortI L t).filter (toldB R fin s0)).map (tI z))))) ⟨fun _ _ _ e => e, ⟨np, [tp], _, none, none, none, none, none, none, none, nvp2, enp, it0, ?_, ?_, rfl⟩, ?_⟩ (fun t σ G ht hW => ?_) (fun σ G hW => ?_)
    · show [[]] = [[]].filter _
      rw [List.filter_cons, if_pos told0]
      rfl
    · intro q hq
      rw [List.mem_singleton.mp hq]
      exact ⟨held0 uo, by rw [List.length_range]; omega⟩
    · rw [evp5]
      show _ = some (HO.lst (vS ((([[]] : List (List Nat)).filter _).map _)))
      rw [List.filter_cons, if_pos told0]
      rfl
    · obtain ⟨fr, ⟨np, ps, qs, y7, y8, y9, y10, y11, y12, y13, npv, enp, its, eqs, oks, rfl⟩, ev⟩ := hW
      have ht : t < n := by omega
      have hpow : ∀ i, i ≤ n → L ^ i ≤ 1000 := fun i hi => Nat.le_trans (Nat.pow_le_pow_right hL1 hi) hpw
      have lqs : qs.length ≤ 1000 := by
        have e1 : (qs.map (·.1)).length ≤ (rowI L t).length := by rw [eqs]; exact List.length_filter_le _ _
        rw [List.length_map, rowI_len] at e1
        exact Nat.le_trans e1 (hpow t (by omega))
      -- longer
      refine ⟨by show 0 ≤ sizeLine; decide, fun lo nlo => ?_⟩
      have sL := same_new (o := .lst []) nlo
      have lov : vp ≠ lo := ne_of_none ev nlo
      have lon : np ≠ lo := ne_of_none enp nlo
      have ewaG : G wa = some (.lst (vr cas)) := fr _ _ (ne_of_none ewa fvp) (sm5 _ _ ewa)
      have flo : ∀ b o, H b = some o → b ≠ lo := fun b o e => ne_of_none (fr _ _ (ne_of_none e fvp) (sm5 _ _ e)) nlo
      have enAG : G nA = some (.lst (vr nas)) := fr _ _ nAv enA5
      have lnAG : LstsAt G nas (nxU us R L) := ⟨lnA5.1, fun i a ns x y => fr _ _ (lnAv a (List.mem_of_getElem? x)) (lnA5.2 i a ns x y)⟩
      have cwG : ∀ (c : Nat) (ca : Addr), cas[c]? = some ca → ∃ xs : List Addr, G ca = some (.lst (vr xs)) ∧ xs.length = us.length ∧ ∀ (i : Nat) (x : Addr), xs[i]? = some x → G x = some (.lst (vi (cellU us R i c))) := fun c ca hc => by
        obtain ⟨xs, a, b, d⟩ := cw c ca hc
        exact ⟨xs, fr _ _ (ne_of_none a fvp) (sm5 _ _ a), b, fun i x hx => fr _ _ (ne_of_none (d i x hx) fvp) (sm5 _ _ (d i x hx))⟩
      refine ⟨.ref np, rfl, np, rfl, ⟨_, .inl (.inl (sL _ _ enp))⟩, ?_⟩
      refine for_it (walk_list (K := K) (a := np) (xs := vr ps)) (fun k σ G' => (∀ b o, b ≠ lo → G b = some o → G' b = some o) ∧ (∃ (ps' : List Addr) (qs' : List (List Nat × List Nat)), G' lo = some (.lst (vr ps')) ∧ ItemsAt G' z (fun b => b = vp ∨ b = lo) ps' qs' ∧ qs'.map (·.1) = (((qs.map (·.1)).take k).flatMap (extI L)).filter (toldB R fin s0) ∧ (∀ q ∈ qs', HeldOk us R s0 q.1 q.2 ∧ q.2.length ≤ 100000)) ∧ ∃ y9 y10 y11 y12 y13, σ = [some (.str z), some (.ref wa), some (.int (n : Int)), some (.int ((us.length : Nat) : Int)), some (.ref nA), some (.ref vp), some (.ref np), some (.int (0 + (t : Int))), some (.ref lo), y9, y10, y11, y12, y13, none, none]) ⟨fun b o n e => sL _ _ e, ⟨[], [], upd_same, ⟨rfl, fun k p q x => by simp at x⟩, by rw [List.take_zero]; rfl, fun _ h => nomatch h⟩, y9, y10, y11, y12, y13, rfl⟩ (fun k σ G' _ hW => .inl (.inl (hW.1 _ _ lon enp))) (fun k x σ G1 G1' hk hW hY => ?_) (fun σ G1 hW => ?_)
      · obtain ⟨fr1, ⟨ps1, qs1, elo1, its1, eqs1, oks1⟩, y9, y10, y11, y12, y13, rfl⟩ := hW
        obtain ⟨rfl, hx⟩ := hY
        obtain ⟨p, hp, rfl⟩ := vr_at hx
        rw [List.length_map, its.1] at hk
        have hq := List.getElem?_eq_getElem hk
        have hqm := List.getElem_mem hk
        generalize qs[k] = qq at hq hqm
        obtain ⟨v, hd⟩ := qq
        obtain ⟨hok, hlen⟩ := oks _ hqm
        have hlen : hd.length ≤ 100000 := hlen
        have hvrow : v ∈ rowI L t := by
          have : v ∈ qs.map (·.1) := List.mem_map.mpr ⟨_, hqm, rfl⟩
          rw [eqs] at this
          exact (List.mem_filter.mp this).1
        have hvl := (rowI_word hvrow).1
        obtain ⟨ha, nha, ep, eh⟩ := its.2 k p _ hp hq
        have ep : G p = some (.tup [.str (tI z v), .ref ha]) := ep
        have eh : G ha = some (.lst (vi hd)) := eh
        have plo : p ≠ lo := ne_of_none ep nlo
        have hlo : ha ≠ lo := ne_of_none eh nlo
        refine ⟨p, [.str (tI z v), .ref ha], rfl, .inl (.inl (fr1 _ _ plo ep)), rfl, .str (tI z v), [.ref ha], rfl, .ref ha, [], rfl, rfl, ?_⟩
        have walo := flo _ _ ewa
        have ekt : (qs.map (·.1)).take (k + 1) = (qs.map (·.1)).take k ++ [v] := take_snoc (by rw [List.getElem?_map, hq]; rfl)
        have hzs : z.cps.size = L := zl
        refine ⟨.str z, rfl, .ref wa, rfl, z, wa, vr cas, rfl, .inl (.inl (fr1 _ _ walo ewaG)), ?_⟩
        refine for_it (walk_ZL (K := K) (z := z) (a := wa) (xs := vr cas) (n := L) hzs (by rw [List.length_map, lc])) (fun c σ G' => (∀ b o, b ≠ lo → G b = some o → G' b = some o) ∧ (∃ (ps' : List Addr) (qs' : List (List Nat × List Nat)), G' lo = some (.lst (vr ps')) ∧ ItemsAt G' z (fun b => b = vp ∨ b = lo) ps' qs' ∧ qs'.map (·.1) = (((qs.map (·.1)).take k).flatMap (extI L) ++ (List.range c).map fun c => v ++ [c]).filter (toldB R fin s0) ∧ (∀ q ∈ qs', HeldOk us R s0 q.1 q.2 ∧ q.2.length ≤ 100000)) ∧ ∃ y11 y12 y13, σ = [some (.str z), some (.ref wa), some (.int (n : Int)), some (.int ((us.length : Nat) : Int)), some (.ref nA), some (.ref vp), some (.ref np), some (.int (0 + (t : Int))), some (.ref lo), some (.str (tI z v)), some (.ref ha), y11, y12, y13, none, none]) ⟨fr1, ⟨ps1, qs1, elo1, its1, by rw [eqs1, List.range_zero, List.map_nil, List.append_nil], oks1⟩, y11, y12, y13, rfl⟩ (fun c σ G' _ hW => .inl (.inl (hW.1 _ _ walo ewaG))) (fun c x σ G2 G2' hc hW hY => ?_) (fun σ G2 hW => ?_)
        · obtain ⟨fr2, ⟨ps2, qs2, elo2, its2, eqs2, oks2⟩, y11, y12, y13, rfl⟩ := hW
          obtain ⟨T1, v1, v2, rfl, nT1, rfl, e1, e2⟩ := hY
          obtain ⟨ca, hca, rfl⟩ := vr_at e2
          have ezc : v1 = .str (sg (z.cps.toList.getD c 0)) := by
            have h1 := List.getElem?_eq_getElem (l := z.cps.toList) (i := c) (by rw [Array.length_toList, hzs]; exact hc)
            have e1 : (z.cps[c]?).map (fun c => V.str ⟨#[c]⟩) = some v1 := e1
            rw [← Array.getElem?_toList, h1] at e1
            rw [List.getD_eq_getElem?_getD, h1]
            exact (Option.some.inj e1).symm
          subst ezc
          have sT := same_new (o := .tup [.str (sg (z.cps.toList.getD c 0)), .ref ca]) nT1
          refine ⟨T1, [.str (sg (z.cps.toList.getD c 0)), .ref ca], rfl, .inl (.inl upd_same), rfl, .str (sg (z.cps.toList.getD c 0)), [.ref ca], rfl, .ref ca, [], rfl, rfl, ?_⟩
          have fr3 : ∀ b o, b ≠ lo → G b = some o → (upd G2 T1 (.tup [.str (sg (z.cps.toList.getD c 0)), .ref ca])) b = some o := fun b o n e => sT _ _ (fr2 b o n e)
          have elo3 := sT _ _ elo2
          have its3 : ItemsAt (upd G2 T1 (.tup [.str (sg (z.cps.toList.getD c 0)), .ref ca])) z (fun b => b = vp ∨ b = lo) ps2 qs2 := its2.mono (Tups.same sT) fun b xs n e => ⟨n, sT _ _ e⟩
          generalize upd G2 T1 (.tup [.str (sg (z.cps.toList.getD c 0)), .ref ca]) = G3 at fr3 elo3 its3
          obtain ⟨xs, exs, lxs, cx⟩ := cwG c ca hca
          have nlo' : ∀ b o, G b = some o → b ≠ lo := fun b o e => ne_of_none e nlo
          -- the lists
          refine ⟨.ref ha, rfl, ha, rfl, ⟨_, .inl (.inl (fr3 _ _ hlo eh))⟩, fun D nD => ?_⟩
          refine lc_it (walk_list (K := K) (a := ha) (xs := vi hd)) (fun j G' => Same G3 G' ∧ ∃ las : List Addr, (∀ a ∈ las, a ≠ D) ∧ G' D = some (.lst (vr las)) ∧ LstsAt G' las ((hd.take j).map fun i => cellU us R i c)) ⟨same_new nD, [], (fun _ h => nomatch h), upd_same, ⟨by rw [List.take_zero]; rfl, fun i a ns e => by simp at e⟩⟩ (fun j G' _ hW => .inl (.inl (hW.1 _ _ (fr3 _ _ hlo eh)))) (fun j x G4 G4' hj hW hY => ?_) (fun G4 hW => ?_)
          · obtain ⟨s4, las, nla, eD, la⟩ := hW
            obtain ⟨rfl, hx⟩ := hY
            obtain ⟨i, hi, rfl⟩ := int_at hx
            rw [List.length_map] at hj
            obtain ⟨s', hs', _⟩ := (hok i).mp (List.mem_of_getElem? hi)
            have hil := (List.getElem?_eq_some_iff.mp hs').1
            have hxi := List.getElem?_eq_getElem (l := xs) (i := i) (by omega)
            generalize xs[i]'(by omega) = x at hxi
            have ex := cx i x hxi
            have xD : x ≠ D := ne_of_none (fr3 _ _ (nlo' _ _ ex) ex) nD
            refine ⟨rfl, lcyes ⟨.ref ca, rfl, .int (i : Int), rfl, ca, _, (i : Int), .ref x, rfl, rfl, .inl (.inl (s4 _ _ (fr3 _ _ (nlo' _ _ exs) exs))), atI_nat (vr_get hxi), vr las, eD, ?_, ?_, las ++ [x], mem_snoc nla xD, by rw [upd_same, vr_snoc], ?_⟩⟩
            · rw [List.length_map, la.1, List.length_map, List.length_take]
              exact sl _ (by omega)
            · intro b o e
              rw [upd_ne (ne_of_none e nD)]
              exact s4 _ _ e
            · have l3 : LstsAt G4' (las ++ [x]) ((hd.take j).map (fun i => cellU us R i c) ++ [cellU us R i c]) := la.snoc (s4 _ _ (fr3 _ _ (nlo' _ _ ex) ex))
              rw [take_snoc hi, List.map_append]
              refine ⟨l3.1, fun k a ns x' y => ?_⟩
              rw [upd_ne (mem_snoc nla xD a (List.mem_of_getElem? x'))]
              exact l3.2 k a ns x' y
          obtain ⟨s34, las, _, eD, la⟩ := hW
          rw [List.length_map, List.take_of_length_le (Nat.le_refl _)] at la
          -- reached
          have clo : CellsW G wa cas us L R := ⟨ewaG, lc, cwG⟩
          refine ⟨.ref nA, rfl, D, nA, las, nas, hd.map fun i => cellU us R i c, nxU us R L, rfl, eD, la, s34 _ _ (fr3 _ _ (nlo' _ _ enAG) enAG), ⟨lnAG.1, fun i a ns x y => s34 _ _ (fr3 _ _ (nlo' _ _ (lnAG.2 i a ns x y)) (lnAG.2 i a ns x y))⟩, fun x hx => ?_, fun ys hy y hyy => ?_, by rw [nxU_len]; omega, fun G5 f us' s45 nf ef nd' lt' mem' => ?_⟩
          · obtain ⟨ys, h1, h2⟩ := List.mem_flatten.mp hx
            obtain ⟨i, _, rfl⟩ := List.mem_map.mp h1
            rw [nxU_len]
            exact cellU_lt h2
          · unfold nxU at hy
            obtain ⟨i, _, rfl⟩ := List.mem_map.mp hy
            obtain ⟨d, _, h2⟩ := List.mem_flatMap.mp hyy
            rw [nxU_len]
            exact cellU_lt h2
          have hok' : HeldOk us R s0 (v ++ [c]) us' := fun x => by rw [mem', spread_ok uo hR hok hc]
          have len' : us'.length ≤ 100000 := by
            have := len_le_of_sub nd' (ys := List.range us.length) fun x hx => List.mem_range.mpr (by rw [← nxU_len (R := R) (L := L)]; exact lt' x hx)
            rw [List.length_range] at this
            omega
          have s35 := s34.trans s45
          have fr5 : ∀ b o, b ≠ lo → G b = some o → G5 b = some o := fun b o n e => s35 _ _ (fr3 b o n e)
          have elo5 := s35 _ _ elo3
          have its5 : ItemsAt G5 z (fun b => b = vp ∨ b = lo) ps2 qs2 := its3.mono (Tups.same s35) fun b xs n e => ⟨n, s35 _ _ e⟩
          have tol := told_held uo hok'
          have lq2 : qs2.length ≤ 5000 := by
            have e1 : (qs2.map (·.1)).length ≤ (((qs.map (·.1)).take k).flatMap (extI L) ++ (List.range c).map fun c => v ++ [c]).length := by rw [eqs2]; exact List.length_filter_le _ _
            rw [List.length_map, List.length_append, List.length_flatMap, List.map_congr_left (g := fun _ => L) (fun v _ => extI_len v), List.map_const', List.sum_replicate_nat, List.length_take, List.length_map, List.length_map, List.length_range] at e1
            have e2 : min k qs.length = k := by omega
            rw [e2] at e1
            have e3 : k * L ≤ 999 * L := Nat.mul_le_mul_right L (by omega)
            have e4 : 999 * L + c ≤ 5000 := by omega
            omega
          refine ⟨.ref f, rfl, f, _, rfl, .inl (.inl (.inl ef)), _, 0, rfl, rfl, _, rfl, ite2 (fun y => ?_) (fun y => ?_)⟩
          · have hne : us' ≠ [] := fun e => by
              have := of_decide_eq_true y
              rw [e] at this
              exact absurd this (by decide)
            have ht1 : toldB R fin s0 (v ++ [c]) = true := toldB_iff.mpr (tol.mpr hne)
            refine ⟨.ref lo, rfl, .inl ⟨rfl, _, .inl (.inl elo5)⟩, .str (tI z v), rfl, .str (sg (z.cps.toList.getD c 0)), rfl, tI z v, sg (z.cps.toList.getD c 0), rfl, rfl, ?_, .ref f, rfl, by show 2 ≤ sizeLine; decide, fun tp ntp => ?_⟩
            · rw [tI_len, hvl]
              exact Nat.le_of_lt (sl (t + 1) (by omega))
            rw [tI_snoc]
            have s6 := same_new (o := .tup [.str (tI z (v ++ [c])), .ref f]) ntp
            have elo6 := s6 _ _ elo5
            have flo2 : f ≠ lo := fun e => by
              rw [e, s34 _ _ elo3] at nf
              cases nf
            have fvp2 : f ≠ vp := fun e => by
              rw [e, s34 _ _ (fr3 _ _ lov ev)] at nf
              cases nf
            refine ⟨lo, _, _, rfl, rfl, elo6, by rw [List.length_map, its2.1]; exact sl _ (by omega), ?_⟩
            have tnl : ∀ b xs, (upd G5 tp (.tup [.str (tI z (v ++ [c])), .ref f])) b = some (.tup xs) → (upd (upd G5 tp (.tup [.str (tI z (v ++ [c])), .ref f])) lo (.lst (vr ps2 ++ [.ref tp]))) b = some (.tup xs) := Tups.lst elo6
            refine ⟨fun b o n e => ?_, ⟨ps2 ++ [tp], qs2 ++ [(v ++ [c], us')], by rw [upd_same, vr_snoc], ItemsAt.snoc (its5.mono (fun b xs e => tnl _ _ (s6 _ _ e)) fun b xs n e => ⟨n, by rw [upd_ne fun z => n (.inr z)]; exact s6 _ _ e⟩) ⟨f, fun z => z.elim fvp2 flo2, tnl _ _ upd_same, by rw [upd_ne flo2]; exact s6 _ _ ef⟩, ?_, fun q hq => ?_⟩, _, _, _, rfl⟩
            · rw [upd_ne n]
              exact s6 _ _ (fr5 b o n e)
            · rw [List.map_append, eqs2, List.range_succ, List.map_append, ← List.append_assoc, List.filter_append _ (List.map _ [c])]
              show _ ++ [v ++ [c]] = _ ++ [v ++ [c]].filter _
              rw [List.filter_cons, if_pos ht1]
              rfl
            · rcases List.mem_append.mp hq with h | h
              · exact oks2 q h
              · rw [List.mem_singleton.mp h]
                exact ⟨hok', len'⟩
          · have he : us' = [] := by
              have : ¬ (0 : Int) < ((vi us').length : Nat) := fun h => y (decide_eq_true h)
              rw [List.length_map] at this
              exact List.length_eq_zero_iff.mp (by omega)
            have ht1 : toldB R fin s0 (v ++ [c]) = false := by
              cases q : toldB R fin s0 (v ++ [c]) with
              | false => rfl
              | true => exact absurd he (tol.mp (toldB_iff.mp q))
            refine ⟨fr5, ⟨ps2, qs2, elo5, its5, ?_, oks2⟩, _, _, _, rfl⟩
            rw [eqs2, List.range_succ, List.map_append, ← List.append_assoc, List.filter_append _ (List.map _ [c])]
            show _ = _ ++ [v ++ [c]].filter _
            rw [List.filter_cons, ht1, if_neg Bool.false_ne_true, List.filter_nil, List.append_nil]
        · obtain ⟨fr2, ⟨ps2, qs2, elo2, its2, eqs2, oks2⟩, y11, y12, y13, rfl⟩ := hW
          refine ⟨fr2, ⟨ps2, qs2, elo2, its2, ?_, oks2⟩, _, _, _, _, _, rfl⟩
          rw [eqs2, ekt, List.flatMap_append]
          simp [extI]
      · obtain ⟨fr1, ⟨ps1, qs1, elo1, its1, eqs1, oks1⟩, y9, y10, y11, y12, y13, rfl⟩ := hW
        rw [List.length_map, its.1, List.take_of_length_le (by rw [List.length_map]; exact Nat.le_refl _), eqs, row_told] at eqs1
        have lq1 : qs1.length ≤ 1000 := by
          have e1 : (qs1.map (·.1)).length ≤ (rowI L (t + 1)).length := by rw [eqs1]; exact List.length_filter_le _ _
          rw [List.length_map, rowI_len] at e1
          exact Nat.le_trans e1 (hpow (t + 1) (by omega))
        -- views += ..
        refine ⟨.ref vp, rfl, .ref lo, rfl, lo, rfl, ⟨_, .inl (.inl elo1)⟩, fun D nD => ?_⟩
        have ev1 := fr1 _ _ lov ev
        have vD : vp ≠ D := ne_of_none ev1 nD
        refine lc_it (walk_list (K := K) (a := lo) (xs := vr ps1)) (fun j G' => G' = upd G1 D (.lst (vS (((qs1.map (·.1)).take j).map (tI z))))) (by rw [List.take_zero]; rfl) (fun j G' _ hW => by rw [hW]; exact .inl (.inl (same_new nD _ _ elo1))) (fun j x G2 G2' hj hW hY => ?_) (fun G2 hW => ?_)
        · subst hW
          obtain ⟨rfl, hx⟩ := hY
          obtain ⟨p, hp, rfl⟩ := vr_at hx
          rw [List.length_map, its1.1] at hj
          have hq := List.getElem?_eq_getElem hj
          generalize qs1[j] = qq at hq
          obtain ⟨ha, _, ep, _⟩ := its1.2 j p _ hp hq
          refine ⟨p, [.str (tI z qq.1), .ref ha], rfl, .inl (.inl (same_new nD _ _ ep)), rfl, .str (tI z qq.1), [.ref ha], rfl, .ref ha, [], rfl, rfl, rfl, lcyes ⟨.str (tI z qq.1), rfl, _, upd_same, ?_, ?_⟩⟩
          · rw [List.length_map, List.length_map, List.length_take, List.length_map]
            exact sl _ (by omega)
          · rw [upd_upd, vS_snoc, take_snoc (show (qs1.map (·.1))[j]? = some qq.1 by rw [List.getElem?_map, hq]; rfl), List.map_append]
            rfl
        rw [List.length_map, its1.1, List.take_of_length_le (by rw [List.length_map]; exact Nat.le_refl _), eqs1] at hW
        subst hW
        have sD := same_new (o := .lst (vS (((rowI L (t + 1)).filter (toldB R fin s0)).map (tI z)))) nD
        refine ⟨vp, D, _, _, rfl, rfl, sD _ _ ev1, upd_same, ?_, ?_⟩
        · rw [List.length_map, List.length_map, List.length_map, List.length_map]
          have a1 := List.length_filter_le (toldB R fin s0) (shortI L t)
          have a2 := List.length_filter_le (toldB R fin s0) (rowI L (t + 1))
          have a3 := shortI_len hL1 (hpow t (by omega))
          rw [rowI_len] at a2
          have a4 := hpow (t + 1) (by omega)
          have a5 : (t + 1) * 1000 ≤ 10 * 1000 := Nat.mul_le_mul_right 1000 (by omega)
          exact Nat.le_of_lt (sl _ (by omega))
        · rw [vS_app, ← List.map_append, ← List.filter_append, ← shortI_succ]
          refine ⟨.ref lo, rfl, fun b o n e => ?_, ⟨lo, ps1, qs1, _, _, _, _, _, _, _, lov.symm, ?_, its1.mono (fun b xs e => ?_) fun b xs n e => ⟨fun z => n (.inl z), ?_⟩, eqs1, oks1, rfl⟩, upd_same⟩
          · rw [upd_ne n]
            exact sD _ _ (fr1 _ _ (fun z => by have := fr _ _ n e; rw [z, nlo] at this; cases this) (fr _ _ n e))
          · rw [upd_ne lov.symm]
            exact sD _ _ elo1
          · exact Tups.lst (sD _ _ ev1) b xs (sD _ _ e)
          · rw [upd_ne fun z => n (.inl z)]
            exact sD _ _ e
    · obtain ⟨fr, ⟨np, ps, qs, y7, y8, y9, y10, y11, y12, y13, npv, enp, its, eqs, oks, rfl⟩, ev⟩ := hW
      rw [Int.toNat_natCast] at ev
      exact ⟨.ref vp, rfl, q G vp (fun b o e => fr _ _ (ne_of_none e fvp) (sm5 _ _ e)) fvp ev⟩
end
end LH

namespace LH
open PySem PySem.Spec PyProof.Rows L2 NdefX LamX LU
section
variable {P : Program} {w : World} {K : PySem.W.Frag} {mg : Str → Option Value} {base : Heap}
/-! ### views_of -/
def sp_views_of (tabs : List NTab) : Sp := fun vs H Q _ => ∃ (m : Addr) (M : Mach) (n : Nat), vs = [.ref m, .int (n : Int)] ∧ MachAt H m M ∧ M.Ok ∧ M.rows.length ≤ 100000 ∧ M.z.length ^ n ≤ 1000 ∧ n ≤ 10 ∧ TabsN tabs H ∧
  ∀ H' p, ExtN H H' → TabsN tabs H' → (∀ b o, H b = some o → (∀ ps, o ≠ .tbl ps) → b ≠ p) → H' p = some (.lst (vS (((shortI M.z.length n).filter (toldB (RM M) (finM M) 0)).map (tI M.z)))) → Q (.ref p) H'
theorem RM_len {M : Mach} (k : M.Ok) {s : Nat} (h : s < M.rows.length) : (RM M s).length = M.z.length := by
  refine (k.row _ ?_).1
  show M.rows.getD s [] ∈ M.rows
  rw [List.getD_eq_getElem?_getD, List.getElem?_eq_getElem h]
  exact List.getElem_mem h
theorem ok_views_of (T : TX K mg) {tabs : List NTab} (G_ways_of : FnOk P w K mg base CX0 7 T.a_ways_of T.fd_ways_of ["machine"] (sp_ways_of tabs)) : FnOk P w K mg base CX0 8 T.a_views_of T.fd_views_of ["machine", "size"] (sp_views_of tabs) := by
  have G_views_of_ways : FnOk P w K mg base CX0 3 T.a_views_of_ways T.fd_views_of_ways ["letters", "ways", "size"] sp_views_of_ways := ok_views_of_ways T
  refine T.F_views_of.ok sc_views_of (fun vs H Q E h => ?_) (fun cdv A outer s H vs Q E hr h => ?_)
  · obtain ⟨m, M, n, rfl, _⟩ := h
    rfl
  · obtain ⟨m, M, n, rfl, mm, k, hb, hp, hn, tb, q⟩ := h
    refine ⟨_, (pss_cons (ps_asg (pe_call G_ways_of (hr.mono (by decide)) (by rfl) T.g_ways_of T.F_ways_of.kp T.b_ways_of .nil pass0 (pa_cons (pv 0) pa_nil)) (pg_tupK (n := 3) K rfl (by rfl) (pgs_cons (pg_name (i := 2) sc_views_of.nd rfl (Or.inl rfl)) (pgs_cons (pg_name (i := 3) sc_views_of.nd rfl (Or.inl rfl)) (pgs_cons (pg_name (i := 4) sc_views_of.nd rfl (Or.inl rfl)) pgs_nil)))))
      (pss_one (ps_ret (pe_call G_views_of_ways (hr.mono (by decide)) (by rfl) T.g_views_of_ways T.F_views_of_ways.kp T.b_views_of_ways .nil pass0 (pa_cons (pe_ix (ix_tupK K rfl) (pv 0) pe_int (fun _ _ => rfl)) (pa_cons (pv 3) (pa_cons (pv 1) pa_nil))))))), ?_⟩
    refine ⟨.ref m, rfl, m, M, rfl, mm, k, hb, tb, fun H1 p fa wa ea us x1 tb1 ep efa ew eea uo => ?_⟩
    refine ⟨p, [.ref fa, .ref wa, .ref ea], rfl, .inl (.inl ep), rfl, .ref fa, [.ref wa, .ref ea], rfl, .ref wa, [.ref ea], rfl, .ref ea, [], rfl, rfl, ?_⟩
    obtain ⟨t, e, as, h1, h2, h3, h4⟩ := mm
    have h11 := x1 _ _ h1 (by intro ps z; cases z)
    refine ⟨.ref m, rfl, m, _, 0, .str M.z, rfl, rfl, .inl (.inl h11), rfl, .ref wa, rfl, .int (n : Int), rfl, M.z, wa, n, M.z.length, 0, M.rows.length, us, RM M, finM M, rfl, ew, uo, fun s' h => RM_len k h, rfl, k.let_.one, k.let_.five, hb, hp, hn, fun H2 p2 s2 np2 ep2 => ?_⟩
    exact q H2 p2 (fun b o eb n => s2 _ _ (x1 b o eb n)) (tb1.ext s2) (fun b o eb n e => by
      have := x1 b o eb n
      rw [e, np2] at this
      cases this) ep2
/-! ### _law_machine -/
def sp_law_machine : Sp := fun vs H Q _ => ∃ (r : Addr) (z : Str) (most : Nat), vs = [.ref r, .str z, .int (most : Int)] ∧ RowAt H r ∧ IsLet z ∧ 1 ≤ most ∧ most ≤ 1000 ∧
  ∀ H' p (M : Mach), Off r H H' → RowAt H' r → MachAt H' p M → M.Ok → M.z = z → M.rows.length ≤ most → Q (.ref p) H'
theorem ok_law_machine (T : TX K mg) : FnOk P w K mg base CX0 2 T.a_law_machine T.fd_law_machine ["hand", "letters", "most"] sp_law_machine := by
  have G_law_draw : FnOk P w K mg base CX0 1 T.a_law_draw T.fd_law_draw ["hand", "limit"] sp_law_draw := ok_law_draw T
  refine T.F_law_machine.ok sc_law_machine (fun vs H Q E h => ?_) (fun cdv A outer s H vs Q E hr h => ?_)
  · obtain ⟨r, z, most, rfl, _⟩ := h
    rfl
  · obtain ⟨r, z, most, rfl, hR, hz, hm1, hm2, q⟩ := h
    refine ⟨_, (pss_cons (ps_set (i := 3) sc_law_machine.nd rfl (Or.inr rfl) (pe_op op_add pe_int (pe_call G_law_draw (hr.mono (by decide)) (by rfl) T.g_law_draw T.F_law_draw.kp T.b_law_draw .nil pass0 (pa_cons (pv 0) (pa_cons (pv 2) pa_nil)))))
      (pss_cons (ps_set (i := 4) sc_law_machine.nd rfl (Or.inl rfl) (pe_callTy (call_tupleK K rfl) (by rfl) T.m_tuple (by decide +kernel) (pa_cons (pe_lc (own := [("k", 5)]) (g := gName 5) (tt := tYes) (by rfl) sc_law_machine.nd (pi_range1 (by rfl) T.m_range (pa_cons (pv 3) pa_nil)) (blkOk_by (own := [("k", 5)]) (N := N_law_machine) (by kernel_rfl)) (fun _ _ _ _ _ => (pg_name (i := 5) sc_law_machine.nd rfl (by first | exact Or.inl rfl | exact Or.inr rfl))) (fun _ _ _ _ _ => pts_nil) (fun _ _ _ _ _ => (pe_callTy (call_tupleK K rfl) (by rfl) T.m_tuple (by decide +kernel) (pa_cons (pe_lc (own := [("letter", 6)]) (g := gName 6) (tt := tYes) (by rfl) sc_law_machine.nd (pi_str (pv 1)) (blkOk_by (own := [("letter", 6)]) (N := N_law_machine) (by kernel_rfl)) (fun _ _ _ _ _ => (pg_name (i := 6) sc_law_machine.nd rfl (by first | exact Or.inl rfl | exact Or.inr rfl))) (fun _ _ _ _ _ => pts_nil) (fun _ _ _ _ _ => (pe_call G_law_draw (hr.mono (by decide)) (by rfl) T.g_law_draw T.F_law_draw.kp T.b_law_draw .nil pass0 (pa_cons (pv 0) (pa_cons (pv 3) pa_nil))))) pa_nil)))) pa_nil)))
      (pss_one (ps_ret (pe_tup (pa_cons (pv 1) (pa_cons (pv 4) (pa_cons (pe_callTy (call_tupleK K rfl) (by rfl) T.m_tuple (by decide +kernel) (pa_cons (pe_lc (own := [("k", 5)]) (g := gName 5) (by rfl) sc_law_machine.nd (pi_range1 (by rfl) T.m_range (pa_cons (pv 3) pa_nil)) (blkOk_by (own := [("k", 5)]) (N := N_law_machine) (by kernel_rfl)) (fun _ _ _ _ _ => (pg_name (i := 5) sc_law_machine.nd rfl (by first | exact Or.inl rfl | exact Or.inr rfl))) (fun _ _ _ _ _ => (pts_one (pt_cmpR op_eq (pe_call G_law_draw (hr.mono (by decide)) (by rfl) T.g_law_draw T.F_law_draw.kp T.b_law_draw .nil pass0 (pa_cons (pv 0) (pa_cons pe_int pa_nil))) pe_int (nomark _)))) (fun _ _ _ _ _ => (pv 5))) pa_nil)) pa_nil)))))))), ?_⟩
    -- many
    refine ⟨.ref r, rfl, .int (most : Int), rfl, r, (most : Int), rfl, hR, by omega, by omega, fun H1 g o1 R1 g0 g1 => ?_⟩
    obtain ⟨m, rfl⟩ : ∃ m : Nat, g = (m : Int) := ⟨g.toNat, by omega⟩
    refine ⟨1, (m : Int), rfl, rfl, ?_⟩
    -- table
    refine ⟨.int (1 + m), rfl, 1 + m, rfl, by omega, by omega, fun D nD => ?_⟩
    have fD : H D = none := o1.free (R1.ne nD) nD
    have rD : r ≠ D := R1.ne nD
    refine lc_range (lo := 0) (n := (1 + (m : Int)).toNat) (fun i H' => ∃ as rows, RowAt H' r ∧ Off r H H' ∧ H' D = some (.lst (vr as)) ∧ RowsAt H' as rows ∧ rows.length = i ∧ ∀ row ∈ rows, row.length = z.length ∧ ∀ t ∈ row, t < m + 1) ⟨[], [], R1.new nD, o1.mut fD, upd_same, ⟨rfl, fun i a row x => by simp at x⟩, rfl, fun _ h => nomatch h⟩ (fun i H2 hi hW => ?_) (fun H2 hW => ?_)
    · obtain ⟨as, rows, R2, o2, e2, ra, rl, ro⟩ := hW
      refine ⟨rfl, lcyes ?_⟩
      -- tuple([take for sign in letters])
      refine ⟨.str z, rfl, z, rfl, fun D2 n2 => ?_⟩
      have f2 : H D2 = none := o2.free (R2.ne n2) n2
      have r2 : r ≠ D2 := R2.ne n2
      have d2 : D ≠ D2 := ne_of_none e2 n2
      refine lc_it walk_str (fun j H' => ∃ row, RowAt H' r ∧ Off r H H' ∧ H' D = some (.lst (vr as)) ∧ RowsAt H' as rows ∧ H' D2 = some (.lst (vi row)) ∧ row.length = j ∧ ∀ t ∈ row, t < m + 1) ⟨[], R2.new n2, o2.mut f2, by rw [upd_ne d2]; exact e2, ra.mono (Tups.new n2), upd_same, rfl, fun _ h => nomatch h⟩ (fun _ _ _ _ => trivial) (fun j x H3 H3' hj hW hY => ?_) (fun H3 hW => ?_)
      · obtain ⟨row, R3, o3, e3, ra3, w3, l3, t3⟩ := hW
        obtain ⟨rfl, c, hc, rfl⟩ := hY
        refine ⟨rfl, lcyes ?_⟩
        refine ⟨.ref r, rfl, .int (1 + m), rfl, r, 1 + (m : Int), rfl, R3, by omega, by omega, fun H4 g o4 R4 a0 a1 => ?_⟩
        obtain ⟨k, rfl⟩ : ∃ k : Nat, g = (k : Int) := ⟨g.toNat, by omega⟩
        refine ⟨vi row, o4 _ _ r2.symm w3, ?_, row ++ [k], R4.upd r2, (o3.trans o4).mut f2, ?_, ?_, ?_, ?_, mem_snoc t3 (by omega)⟩
        · rw [List.length_map, l3]
          refine small1000 ?_
          have := hz.five
          have : j < z.length := hj
          omega
        · rw [upd_ne d2]
          exact o4 _ _ rD.symm e3
        · exact (ra3.mono (Tups.off R3 o4)).mono (Tups.lst (o4 _ _ r2.symm w3))
        · rw [upd_same, vi_snoc]
        · rw [List.length_append, l3]
          rfl
      · obtain ⟨row, R3, o3, e3, ra3, w3, l3, t3⟩ := hW
        refine ⟨D2, _, rfl, .inl ⟨.inl (.inl w3), fun p4 n4 => ?_⟩⟩
        have f4 : H p4 = none := o3.free (R3.ne n4) n4
        have d4 : D ≠ p4 := ne_of_none e3 n4
        have ha : (upd H3 p4 (.tup (vi row))) p4 = some (.tup (vi row)) := upd_same
        refine ⟨vr as, by rw [upd_ne d4]; exact e3, ?_, as ++ [p4], rows ++ [row], (R3.new n4).upd rD, (o3.mut f4).mut fD, ?_, ?_, ?_, mem_snoc ro ⟨l3, t3⟩⟩
        · rw [List.length_map, ra3.1, rl]
          exact small1000 (by omega)
        · rw [upd_same, vr_snoc]
        · exact ((ra3.mono (Tups.new n4)).snoc ha).mono (Tups.lst (xs := vr as) (by rw [upd_ne d4]; exact e3))
        · rw [List.length_append, rl]
          rfl
    · obtain ⟨as, rows, R2, o2, e2, ra, rl, ro⟩ := hW
      have hrl : rows.length = m + 1 := by
        rw [rl]
        omega
      -- the table
      refine ⟨D, _, rfl, .inl ⟨.inl (.inl e2), fun p4 n4 => ?_⟩⟩
      have f4 : H p4 = none := o2.free (R2.ne n4) n4
      have R2' := R2.new (o := .tup (vr as)) n4
      have o2' := o2.mut (o := .tup (vr as)) f4
      have ra' := ra.mono (Tups.new (o := .tup (vr as)) n4)
      have e4 : (upd H2 p4 (.tup (vr as))) p4 = some (.tup (vr as)) := upd_same
      generalize upd H2 p4 (.tup (vr as)) = H2b at R2' o2' ra' e4
      -- ends
      refine ⟨.str z, rfl, .ref p4, rfl, .int (1 + m), rfl, 1 + m, rfl, by omega, by omega, fun D2 n2 => ?_⟩
      have f2 : H D2 = none := o2'.free (R2'.ne n2) n2
      have r2 : r ≠ D2 := R2'.ne n2
      refine lc_range (lo := 0) (n := (1 + (m : Int)).toNat) (fun i H' => ∃ es, RowAt H' r ∧ Off r H H' ∧ H' p4 = some (.tup (vr as)) ∧ RowsAt H' as rows ∧ H' D2 = some (.lst (vi es)) ∧ es.length ≤ i ∧ (∀ e ∈ es, e < i) ∧ es.Pairwise (· < ·)) ⟨[], R2'.new n2, o2'.mut f2, Tups.new n2 _ _ e4, ra'.mono (Tups.new n2), upd_same, Nat.le_refl _, (fun _ h => nomatch h), List.Pairwise.nil⟩ (fun i H3 hi hW => ?_) (fun H3 hW => ?_)
      · obtain ⟨es, R3, o3, e3, ra3, w3, l3, t3, p3⟩ := hW
        refine ⟨rfl, .ref r, rfl, r, 3, rfl, R3, by decide, by decide, fun H4 g o4 R4 a0 a1 => ⟨rfl, _, rfl, ite2 (fun _ => ?_) (fun _ => ?_)⟩⟩
        · have w4 := o4 _ _ r2.symm w3
          refine ⟨.int (0 + (i : Int)), rfl, vi es, w4, ?_, es ++ [i], R4.upd r2, (o3.trans o4).mut f2, Tups.lst w4 _ _ (Tups.off R3 o4 _ _ e3), (ra3.mono (Tups.off R3 o4)).mono (Tups.lst w4), ?_, ?_, mem_snoc (fun y hy => Nat.lt_succ_of_lt (t3 y hy)) (Nat.lt_succ_self i), ?_⟩
          · rw [List.length_map]
            exact small1000 (by omega)
          · rw [upd_same, Int.zero_add, vi_snoc]
          · rw [List.length_append]
            show es.length + 1 ≤ i + 1
            omega
          · refine List.pairwise_append.mpr ⟨p3, by simp, fun a ha b hb => ?_⟩
            rw [List.mem_singleton.mp hb]
            exact t3 a ha
        · exact ⟨es, R4, o3.trans o4, Tups.off R3 o4 _ _ e3, ra3.mono (Tups.off R3 o4), o4 _ _ r2.symm w3, by omega, fun y hy => Nat.lt_succ_of_lt (t3 y hy), p3⟩
      · obtain ⟨es, R3, o3, e3, ra3, w3, l3, t3, p3⟩ := hW
        refine ⟨D2, _, rfl, .inl ⟨.inl (.inl w3), fun p5 n5 => ?_⟩⟩
        have R5 := R3.new (o := .tup (vi es)) n5
        have f5 : H p5 = none := o3.free (R3.ne n5) n5
        refine ⟨by show 3 ≤ sizeLine; decide, fun p6 n6 => ?_⟩
        have f6 : H p6 = none := (o3.mut f5).free (R5.ne n6) n6
        have t4 : Tups H3 (upd (upd H3 p5 (.tup (vi es))) p6 (.tup [.str z, .ref p4, .ref p5])) := (Tups.new n5).trans (Tups.new n6)
        refine q _ p6 ⟨z, rows, es⟩ ((o3.mut f5).mut f6) (R5.new n6) ⟨p4, p5, as, upd_same, t4 _ _ e3, ra3.mono t4, (Tups.new n6) _ _ upd_same⟩ ⟨hz, by show 1 ≤ rows.length; omega, ?_, ?_, p3⟩ rfl (by show rows.length ≤ most; omega)
        · intro row hrow
          have := ro row hrow
          refine ⟨this.1, fun t ht => ?_⟩
          have := this.2 t ht
          show t < rows.length
          omega
        · intro e he
          have := t3 e he
          show e < rows.length
          omega
end
end LH

namespace LH
open PySem PySem.Spec PyProof.Rows L2 NdefX LamX LU
/-! ### views that are told, by the words of a machine -/
section
variable {M : Mach}
abbrev chr (z : Str) (v : List Nat) : List Nat := v.map fun c => z.cps.toList.getD c 0
theorem lds_endP {R : Nat → List Nat} {fin : Nat → Bool} {v : List Nat} {s : Nat} (l : LdS R fin s) (g : GoV R 0 v s) : ∃ s', GoV R 0 v s' ∧ fin s' = true := by
  induction l with
  | stop h => exact ⟨_, g, h⟩
  | step h _ ih => exact ih (.stay g h)
theorem RM_row {s : Nat} (h : s < M.rows.length) : M.rows[s]? = some (RM M s) := by
  show _ = some (M.rows.getD s [])
  rw [List.getD_eq_getElem?_getD, List.getElem?_eq_getElem h]
  rfl
theorem gov_lt (k : M.Ok) {v : List Nat} {s : Nat} (g : GoV (RM M) 0 v s) : s < M.rows.length := by
  induction g with
  | nil => exact k.many
  | stay _ ht ih => exact (k.row _ (List.mem_of_getElem? (RM_row ih))).2 _ ht
  | go _ ht ih => exact (k.row _ (List.mem_of_getElem? (RM_row ih))).2 _ (List.mem_of_getElem? ht)
theorem step_of (k : M.Ok) {s i t : Nat} (h : s < M.rows.length) (e : (RM M s)[i]? = some t) : i < M.z.length ∧ M.z.cps.toList.getD i 0 ∈ M.z.cps.toList ∧ M.step s (M.z.cps.toList.getD i 0) = t := by
  have hl := (k.row _ (List.mem_of_getElem? (RM_row h))).1
  have hi := (List.getElem?_eq_some_iff.mp e).1
  have hz : i < M.z.cps.toList.length := by rw [Array.length_toList]; show i < M.z.length; omega
  refine ⟨by omega, ?_, ?_⟩
  · rw [List.getD_eq_getElem?_getD, List.getElem?_eq_getElem hz]
    exact List.getElem_mem hz
  · unfold Mach.step
    rw [idx_of_rise k.let_.rise hz]
    show (RM M s).getD i 0 = t
    rw [List.getD_eq_getElem?_getD, e]
    rfl
theorem run_app (cs : List Nat) (d : Nat) : M.run (cs ++ [d]) = M.step (M.run cs) d := by
  unfold Mach.run
  rw [List.foldl_append]
  rfl
theorem gov_word (k : M.Ok) {v : List Nat} {s : Nat} (g : GoV (RM M) 0 v s) : ∃ cs, (∀ c ∈ cs, c ∈ M.z.cps.toList) ∧ M.run cs = s ∧ (chr M.z v).Sublist cs := by
  induction g with
  | nil => exact ⟨[], (fun _ h => nomatch h), rfl, List.Sublist.refl _⟩
  | stay g ht ih =>
    obtain ⟨cs, a, b, c⟩ := ih
    obtain ⟨i, hi⟩ := List.mem_iff_getElem?.mp ht
    obtain ⟨_, h2, h3⟩ := step_of k (gov_lt k g) hi
    exact ⟨cs ++ [M.z.cps.toList.getD i 0], mem_snoc a h2, by rw [run_app, b, h3], c.trans (List.sublist_append_left _ _)⟩
  | go g ht ih =>
    obtain ⟨cs, a, b, c⟩ := ih
    obtain ⟨_, h2, h3⟩ := step_of k (gov_lt k g) ht
    refine ⟨cs ++ [M.z.cps.toList.getD _ 0], mem_snoc a h2, by rw [run_app, b, h3], ?_⟩
    unfold chr
    rw [List.map_append]
    exact c.append (List.Sublist.refl _)
theorem run_lt (k : M.Ok) {cs : List Nat} (h : ∀ c ∈ cs, c ∈ M.z.cps.toList) : M.run cs < M.rows.length := k.run_lt cs 0 k.many h
theorem word_gov (k : M.Ok) : ∀ (n : Nat) (cs v : List Nat), cs.length = n → (∀ c ∈ cs, c ∈ M.z.cps.toList) → (∀ c ∈ v, c < M.z.length) → (chr M.z v).Sublist cs → GoV (RM M) 0 v (M.run cs)
  | 0, cs, v, e, _, _, s => by
    obtain rfl : cs = [] := List.length_eq_zero_iff.mp e
    have : v = [] := List.map_eq_nil_iff.mp (List.sublist_nil.mp s)
    rw [this]
    exact .nil
  | n + 1, cs, v, e, h, hv, s => by
    have hne : cs ≠ [] := fun z => by rw [z] at e; cases e
    obtain ⟨cs', d, rfl⟩ : ∃ cs' d, cs = cs' ++ [d] := ⟨cs.dropLast, cs.getLast hne, (List.dropLast_concat_getLast hne).symm⟩
    rw [List.length_append] at e
    have e : cs'.length = n := Nat.succ.inj e
    have h' : ∀ c ∈ cs', c ∈ M.z.cps.toList := fun c hc => h c (List.mem_append_left _ hc)
    have hd := h d (List.mem_append_right _ (by simp))
    have hl := run_lt k h'
    obtain ⟨row, er, ei, _⟩ := k.step_at hl hd
    rw [RM_row hl] at er
    cases er
    rw [run_app]
    rcases sub_snoc.mp s with q | ⟨y, ey, q⟩
    · exact .stay (word_gov k n cs' v e h' hv q) (List.mem_of_getElem? ei)
    · obtain ⟨v1, v2, rfl, e1, e2⟩ := List.map_eq_append_iff.mp ey
      obtain ⟨x, rfl, ex⟩ : ∃ x, v2 = [x] ∧ M.z.cps.toList.getD x 0 = d := by
        cases v2 with
        | nil => cases e2
        | cons x r =>
          cases r with
          | nil => exact ⟨x, rfl, (List.cons.inj e2).1⟩
          | cons _ _ => cases e2
      have hx := hv x (List.mem_append_right _ (by simp))
      rw [← ex, idx_of_rise k.let_.rise (by rw [Array.length_toList]; exact hx), ex] at ei
      refine .go (word_gov k n cs' v1 e h' (fun c hc => hv c (List.mem_append_left _ hc)) ?_) ei
      rw [← e1] at q
      exact q
theorem told_words (k : M.Ok) {v : List Nat} (hv : ∀ c ∈ v, c < M.z.length) : toldB (RM M) (finM M) 0 v = true ↔ ∃ cs, (∀ c ∈ cs, c ∈ M.z.cps.toList) ∧ M.has cs = true ∧ (chr M.z v).Sublist cs := by
  rw [toldB_iff]
  constructor
  · rintro ⟨s, g, l⟩
    obtain ⟨s', g', f⟩ := lds_endP l g
    obtain ⟨cs, a, b, c⟩ := gov_word k g'
    exact ⟨cs, a, by unfold Mach.has; rw [b]; exact f, c⟩
  · rintro ⟨cs, a, b, c⟩
    exact ⟨M.run cs, word_gov k _ cs v rfl a hv c, .stop b⟩
end
end LH

namespace LH
open PySem PySem.Spec PyProof.Rows L2 NdefX LamX LU
/-! ### the views of a machine as texts -/
theorem row_mem {L : Nat} : ∀ (n : Nat) (v : List Nat), v.length = n → (∀ c ∈ v, c < L) → v ∈ rowI L n
  | 0, v, e, _ => by
    rw [List.length_eq_zero_iff.mp e]
    exact List.mem_cons_self
  | n + 1, v, e, h => by
    have hne : v ≠ [] := fun z => by rw [z] at e; cases e
    obtain ⟨v', d, rfl⟩ : ∃ v' d, v = v' ++ [d] := ⟨v.dropLast, v.getLast hne, (List.dropLast_concat_getLast hne).symm⟩
    rw [List.length_append] at e
    refine List.mem_flatMap.mpr ⟨v', row_mem n v' (Nat.succ.inj e) fun c hc => h c (List.mem_append_left _ hc), ?_⟩
    exact List.mem_map.mpr ⟨d, List.mem_range.mpr (h d (List.mem_append_right _ (by simp))), rfl⟩
theorem mem_shortI {L n : Nat} {v : List Nat} : v ∈ shortI L n ↔ v.length ≤ n ∧ ∀ c ∈ v, c < L := by
  unfold shortI
  rw [List.mem_flatMap]
  constructor
  · rintro ⟨m, hm, hv⟩
    obtain ⟨a, b⟩ := rowI_word hv
    have := List.mem_range.mp hm
    exact ⟨by omega, b⟩
  · rintro ⟨a, b⟩
    exact ⟨v.length, List.mem_range.mpr (by omega), row_mem _ v rfl b⟩
theorem chr_back {z : Str} (hz : IsLet z) {v : List Nat} (h : ∀ c ∈ v, c < z.length) : (chr z v).map (fun c => z.cps.toList.idxOf c) = v := by
  unfold chr
  rw [List.map_map]
  conv => rhs; rw [← List.map_id v]
  exact List.map_congr_left fun c hc => idx_of_rise hz.rise (by rw [Array.length_toList]; exact h c hc)
theorem chr_inj {z : Str} (hz : IsLet z) {v u : List Nat} (hv : ∀ c ∈ v, c < z.length) (hu : ∀ c ∈ u, c < z.length) (e : chr z v = chr z u) : v = u := by
  rw [← chr_back hz hv, e, chr_back hz hu]
theorem chr_of {z : Str} {y : List Nat} (h : ∀ c ∈ y, c ∈ z.cps.toList) : ∃ v, chr z v = y ∧ (∀ c ∈ v, c < z.length) ∧ v.length = y.length := by
  refine ⟨y.map fun c => z.cps.toList.idxOf c, ?_, fun c hc => ?_, List.length_map ..⟩
  · unfold chr
    rw [List.map_map]
    conv => rhs; rw [← List.map_id y]
    refine List.map_congr_left fun c hc => ?_
    have hl := List.idxOf_lt_length_iff.mpr (h c hc)
    show z.cps.toList.getD (z.cps.toList.idxOf c) 0 = c
    rw [List.getD_eq_getElem?_getD, List.getElem?_eq_getElem hl, List.getElem_idxOf]
    rfl
  · obtain ⟨d, hd, rfl⟩ := List.mem_map.mp hc
    have hl := List.idxOf_lt_length_iff.mpr (h d hd)
    rw [Array.length_toList] at hl
    exact hl
theorem txtP_inj {a b : List Nat} (h : txt a = txt b) : a = b := congrArg (fun z : Str => z.cps.toList) h
noncomputable def VL (M : Mach) (n : Nat) : List Str := ((shortI M.z.length n).filter (toldB (RM M) (finM M) 0)).map (tI M.z)
section
variable {M W : Mach} {n : Nat}
theorem VL_txt (k : M.Ok) {y : List Nat} (hy : ∀ c ∈ y, c ∈ M.z.cps.toList) (hn : y.length ≤ n) : txt y ∈ VL M n ↔ ∃ cs, (∀ c ∈ cs, c ∈ M.z.cps.toList) ∧ M.has cs = true ∧ y.Sublist cs := by
  obtain ⟨v, rfl, hv, hl⟩ := chr_of hy
  rw [← told_words k hv]
  constructor
  · intro h
    obtain ⟨u, hu, e⟩ := List.mem_map.mp h
    obtain ⟨h1, h2⟩ := List.mem_filter.mp hu
    have := chr_inj k.let_ (mem_shortI.mp h1).2 hv (txtP_inj e)
    rw [← this]
    exact h2
  · intro h
    exact List.mem_map.mpr ⟨v, List.mem_filter.mpr ⟨mem_shortI.mpr ⟨by omega, hv⟩, h⟩, rfl⟩
theorem VL_in (k : M.Ok) {x : Str} (h : x ∈ VL M n) : ∃ y : List Nat, x = txt y ∧ (∀ c ∈ y, c ∈ M.z.cps.toList) ∧ y.length ≤ n := by
  obtain ⟨v, hv, rfl⟩ := List.mem_map.mp h
  obtain ⟨a, b⟩ := mem_shortI.mp (List.mem_filter.mp hv).1
  refine ⟨chr M.z v, rfl, fun c hc => ?_, by unfold chr; rw [List.length_map]; exact a⟩
  obtain ⟨i, hi, rfl⟩ := List.mem_map.mp hc
  have hl : i < M.z.cps.toList.length := by rw [Array.length_toList]; exact b i hi
  rw [List.getD_eq_getElem?_getD, List.getElem?_eq_getElem hl]
  exact List.getElem_mem hl
theorem sub_let {z : Str} {y cs : List Nat} (h : ∀ c ∈ cs, c ∈ z.cps.toList) (s : y.Sublist cs) : ∀ c ∈ y, c ∈ z.cps.toList := fun c hc => h c (s.subset hc)
/-- all words of a machine are the machine's of its views -/
theorem known_has (k : M.Ok) {cs : List Nat} (h : ∀ c ∈ cs, c ∈ M.z.cps.toList) (e : M.has cs = true) : Known n (VL M n) cs := fun _ hy hl => (VL_txt k (sub_let h hy) hl).mpr ⟨cs, h, e, hy⟩
/-- that one has just these views -/
theorem views_whole (k : M.Ok) (kW : W.Ok) (zW : W.z = M.z) (hW : ∀ cs, (∀ c ∈ cs, c ∈ M.z.cps.toList) → (W.has cs = true ↔ Known n (VL M n) cs)) : VL W n = VL M n := by
  unfold VL
  rw [zW]
  congr 1
  refine List.filter_congr fun v hv => ?_
  obtain ⟨hl, hc⟩ := mem_shortI.mp hv
  rw [Bool.eq_iff_iff, told_words k hc, told_words kW (by rw [zW]; exact hc), zW]
  constructor
  · rintro ⟨cs, a, b, c⟩
    have := (hW cs a).mp b _ c (by unfold chr; rw [List.length_map]; exact hl)
    exact (VL_txt k (sub_let a c) (by unfold chr; rw [List.length_map]; exact hl)).mp this
  · rintro ⟨cs, a, b, c⟩
    exact ⟨cs, a, (hW cs a).mpr (known_has k a b), c⟩
/-- without a view that it has, a word is lacking -/
theorem less_word (k : M.Ok) {x : Str} (hx : x ∈ VL M n) {ws : List Str} (h : x ∉ ws) : ∃ cs, (∀ c ∈ cs, c ∈ M.z.cps.toList) ∧ M.has cs = true ∧ ¬ Known n ws cs := by
  obtain ⟨y, rfl, hy, hl⟩ := VL_in k hx
  obtain ⟨cs, a, b, c⟩ := (VL_txt k hy hl).mp hx
  exact ⟨cs, a, b, fun q => h (q y c hl)⟩
/-- shorter views tell less -/
theorem wider_has (k : M.Ok) {cs : List Nat} (h : ∀ c ∈ cs, c ∈ M.z.cps.toList) {m : Nat} (hm : m ≤ n) (e : Known n (VL M n) cs) : Known m (VL M m) cs := fun y hy hl => by
  have := e y hy (by omega)
  exact (VL_txt k (sub_let h hy) hl).mpr ((VL_txt k (sub_let h hy) (by omega)).mp this)
end
theorem ext_nd {L : Nat} (v : List Nat) : (extI L v).Nodup := List.pairwise_map.mpr (List.nodup_range.imp fun h e => h (snocN_inj e).2)
theorem rowI_nd {L : Nat} : ∀ m, (rowI L m).Nodup
  | 0 => by
    show [[]].Nodup
    simp
  | m + 1 => List.pairwise_flatMap.mpr ⟨fun v _ => ext_nd v, (rowI_nd m).imp fun h x hx y hy e => by
      obtain ⟨c, _, rfl⟩ := List.mem_map.mp hx
      obtain ⟨d, _, rfl⟩ := List.mem_map.mp hy
      exact h (snocN_inj e).1⟩
theorem shortI_nd {L : Nat} (n : Nat) : (shortI L n).Nodup := List.pairwise_flatMap.mpr ⟨fun m _ => rowI_nd m, List.nodup_range.imp fun h x hx y hy e => by
  have a := (rowI_word hx).1
  have b := (rowI_word hy).1
  rw [e, b] at a
  exact h a.symm⟩
theorem VL_nd {M : Mach} (k : M.Ok) (n : Nat) : (VL M n).Nodup := by
  have h : ((shortI M.z.length n).filter (toldB (RM M) (finM M) 0)).Nodup := List.Nodup.sublist List.filter_sublist (shortI_nd n)
  refine List.pairwise_map.mpr (List.Pairwise.imp_of_mem (fun {a b} ha hb ne e => ne ?_) h)
  exact chr_inj k.let_ (mem_shortI.mp (List.mem_filter.mp ha).1).2 (mem_shortI.mp (List.mem_filter.mp hb).1).2 (txtP_inj e)
/-- without its place, a text of such a list is not there -/
theorem cut_out {xs : List Str} (nd : xs.Nodup) {i : Nat} {x : Str} (h : xs[i]? = some x) : x ∉ xs.take i ++ xs.drop (i + 1) := by
  obtain ⟨hi, e⟩ := List.getElem?_eq_some_iff.mp h
  have e2 : xs = xs.take i ++ x :: xs.drop (i + 1) := by
    have h2 := List.drop_eq_getElem_cons hi
    rw [e] at h2
    conv => lhs; rw [← List.take_append_drop i xs, h2]
  rw [e2] at nd
  intro q
  have := List.nodup_append.mp nd
  rcases List.mem_append.mp q with a | a
  · exact this.2.2 x a x List.mem_cons_self rfl
  · exact (List.nodup_cons.mp this.2.1).1 a
end LH

namespace LH
open PySem PySem.Spec PyProof.Rows L2 NdefX LamX LU
/-! ### few states -/
theorem nd_sub_len {α : Type} [DecidableEq α] : ∀ {l m : List α}, l.Nodup → (∀ x ∈ l, x ∈ m) → l.length ≤ m.length
  | [], _, _, _ => Nat.zero_le _
  | x :: r, m, nd, h => by
    obtain ⟨n1, n2⟩ := List.nodup_cons.mp nd
    have hx := h x List.mem_cons_self
    have := nd_sub_len (l := r) (m := m.erase x) n2 fun y hy => (List.mem_erase_of_ne fun e : y = x => n1 (e ▸ hy)).mpr (h y (List.mem_cons_of_mem _ hy))
    rw [List.length_erase_of_mem hx] at this
    have : 1 ≤ m.length := List.length_pos_iff.mpr fun e => by rw [e] at hx; cases hx
    show r.length + 1 ≤ m.length
    omega
def pows {α : Type} (A : List α) : Nat → List (List α)
  | 0 => [[]]
  | n + 1 => (pows A n).flatMap fun w => A.map fun a => a :: w
theorem pows_len {α : Type} (A : List α) : ∀ n, (pows A n).length = A.length ^ n
  | 0 => rfl
  | n + 1 => by
    show ((pows A n).flatMap fun w => A.map fun a => a :: w).length = _
    rw [List.length_flatMap, List.map_congr_left (g := fun _ => A.length) (fun v _ => List.length_map ..), List.map_const', List.sum_replicate_nat, pows_len A n, Nat.pow_succ]
theorem mem_pows {α : Type} {A : List α} : ∀ {w : List α} {n : Nat}, w.length = n → (∀ a ∈ w, a ∈ A) → w ∈ pows A n
  | [], n, e, _ => by
    subst e
    exact List.mem_singleton.mpr rfl
  | a :: w, n, e, h => by
    subst e
    exact List.mem_flatMap.mpr ⟨w, mem_pows rfl fun b hb => h b (List.mem_cons_of_mem _ hb), List.mem_map.mpr ⟨a, h a List.mem_cons_self, rfl⟩⟩
theorem runs_app (rows : List (List Nat)) (s : Nat) (v w : List Nat) : runs rows s (v ++ w) = runs rows (runs rows s v) w := by
  unfold runs
  rw [List.foldl_append]
theorem canon_reach {L : Nat} {rows : List (List Nat)} {ends : List Nat} (h : Canon L rows ends) (k : Nat) : k < rows.length → ∃ w : List Nat, (∀ c ∈ w, c < L) ∧ runs rows 0 w = k := by
  induction k using Nat.strongRecOn with
  | ind k ih =>
    intro hk
    rcases Nat.eq_zero_or_pos k with e | e
    · subst e
      exact ⟨[], (fun _ h => nomatch h), rfl⟩
    · obtain ⟨r, c, hr, ha, _⟩ := h.bfs k e hk
      obtain ⟨w, hw, ew⟩ := ih r hr (Nat.lt_trans hr hk)
      refine ⟨w ++ [c], mem_snoc hw (h.col ha).2, ?_⟩
      rw [runs_app, ew]
      exact at_dl (L := L) ha
/-- the views of places, of at most n of them, are in the list -/
def KI (z : Str) (n : Nat) (ws : List Str) (v : List Nat) : Prop := ∀ u : List Nat, u.Sublist v → u.length ≤ n → txt (chr z u) ∈ ws
theorem known_KI {z : Str} {n : Nat} {ws : List Str} {v : List Nat} : Known n ws (chr z v) ↔ KI z n ws v := by
  constructor
  · intro h u hu hn
    exact h _ (hu.map _) (by unfold chr; rw [List.length_map]; exact hn)
  · intro h y hy hn
    obtain ⟨u, hu, rfl⟩ := List.sublist_map_iff.mp hy
    rw [List.length_map] at hn
    exact h u hu hn
def cdL (L : Nat) (v : List Nat) : List (Option (List Bool)) := (List.range L).map fun a => if [a].Sublist v then some ((List.range L).map fun b => decide ([a, b].Sublist v)) else none
theorem cdL_mem (L : Nat) (v : List Nat) : cdL L v ∈ pows (none :: (pows [true, false] L).map some) L := by
  refine mem_pows (by unfold cdL; rw [List.length_map, List.length_range]) fun a ha => ?_
  obtain ⟨i, _, rfl⟩ := List.mem_map.mp ha
  split
  · refine List.mem_cons_of_mem _ (List.mem_map.mpr ⟨_, mem_pows (by rw [List.length_map, List.length_range]) fun b hb => ?_, rfl⟩)
    cases b <;> simp
  · exact List.mem_cons_self
theorem cdL_at {L : Nat} {v u : List Nat} (e : cdL L v = cdL L u) {a : Nat} (ha : a < L) : (if [a].Sublist v then some ((List.range L).map fun b => decide ([a, b].Sublist v)) else none) = if [a].Sublist u then some ((List.range L).map fun b => decide ([a, b].Sublist u)) else none := by
  have := congrArg (fun l => l[a]?) e
  unfold cdL at this
  rw [List.getElem?_map, List.getElem?_map, List.getElem?_range ha] at this
  exact Option.some.inj this
theorem cdL_one {L : Nat} {v u : List Nat} (e : cdL L v = cdL L u) {a : Nat} (ha : a < L) (h : [a].Sublist v) : [a].Sublist u := by
  have := cdL_at e ha
  rw [if_pos h] at this
  by_cases q : [a].Sublist u
  · exact q
  · rw [if_neg q] at this
    cases this
theorem cdL_two {L : Nat} {v u : List Nat} (e : cdL L v = cdL L u) {a b : Nat} (ha : a < L) (hb : b < L) (h : [a, b].Sublist v) : [a, b].Sublist u := by
  have h1 : [a].Sublist v := (List.Sublist.cons_cons a (List.nil_sublist [b])).trans h
  have h2 := cdL_one e ha h1
  have := cdL_at e ha
  rw [if_pos h1, if_pos h2] at this
  have := congrArg (fun l => l[b]?) (Option.some.inj this)
  rw [List.getElem?_map, List.getElem?_map, List.getElem?_range hb] at this
  have this : decide ([a, b].Sublist v) = decide ([a, b].Sublist u) := Option.some.inj this
  rw [decide_eq_true h] at this
  exact of_decide_eq_true this.symm
theorem cdL_short {L : Nat} {v u w : List Nat} (e : cdL L v = cdL L u) (hv : ∀ c ∈ v, c < L) (hw : w.Sublist v) (h2 : w.length ≤ 2) : w.Sublist u := by
  match w, h2 with
  | [], _ => exact List.nil_sublist _
  | [a], _ => exact cdL_one e (hv a (hw.subset List.mem_cons_self)) hw
  | [a, b], _ => exact cdL_two e (hv a (hw.subset List.mem_cons_self)) (hv b (hw.subset (List.mem_cons_of_mem _ List.mem_cons_self))) hw
theorem KI_half {z : Str} {n L : Nat} {ws : List Str} {v u t : List Nat} (hn : n ≤ 3) (e : cdL L v = cdL L u) (hu : ∀ c ∈ u, c < L) (ku : KI z n ws u) (h : KI z n ws (v ++ t)) : KI z n ws (u ++ t) := fun y hy yn => by
  obtain ⟨a, b, rfl, h1, h2⟩ := List.sublist_append_iff.mp hy
  rw [List.length_append] at yn
  by_cases q : a.length ≤ 2
  · exact h _ ((cdL_short e.symm hu h1 q).append h2) (by rw [List.length_append]; exact yn)
  · have hb : b = [] := List.length_eq_zero_iff.mp (by omega)
    subst hb
    rw [List.append_nil]
    exact ku a h1 (by omega)
theorem KI_same {z : Str} {n L : Nat} {ws : List Str} {v u t : List Nat} (hn : n ≤ 3) (e : cdL L v = cdL L u) (hv : ∀ c ∈ v, c < L) (hu : ∀ c ∈ u, c < L) (k : KI z n ws v ↔ KI z n ws u) : KI z n ws (v ++ t) ↔ KI z n ws (u ++ t) := by
  have pre : ∀ v, KI z n ws (v ++ t) → KI z n ws v := fun v h y hy hl => h y (hy.trans (List.sublist_append_left _ _)) hl
  exact ⟨fun h => KI_half hn e hu (k.mp (pre v h)) h, fun h => KI_half hn e.symm hv (k.mpr (pre u h)) h⟩
theorem few_states {z : Str} {M : Mach} {n : Nat} {ws : List Str} (k : M.Ok) (ez : M.z = z) (C : Canon z.length M.rows M.ends) (hM : ∀ cs, (∀ c ∈ cs, c ∈ z.cps.toList) → (M.has cs = true ↔ Known n ws cs)) (h3 : z.length ≤ 3) (hn : n ≤ 3) : M.rows.length ≤ 730 := by
  have hz : IsLet z := ez ▸ k.let_
  have rk : ∀ v : List Nat, (∀ c ∈ v, c < z.length) → (runs M.rows 0 v ∈ M.ends ↔ KI z n ws v) := fun v hv => by
    have hcs : ∀ x ∈ chr z v, x ∈ z.cps.toList := fun x hx => by
      obtain ⟨c, hc, rfl⟩ := List.mem_map.mp hx
      have hl : c < z.cps.toList.length := by
        rw [Array.length_toList]
        exact hv c hc
      rw [List.getD_eq_getElem?_getD, List.getElem?_eq_getElem hl]
      exact List.getElem_mem hl
    rw [← known_KI, ← hM _ hcs, has_runs, ez, chr_back hz hv, decide_eq_true_iff]
  have acc := fun i (h : i < M.rows.length) => canon_reach C i h
  classical
  let f : Nat → Option (List (Option (List Bool))) := fun i => if h : i < M.rows.length then (if KI z n ws (Classical.choose (acc i h)) then some (cdL z.length (Classical.choose (acc i h))) else none) else none
  let f2 : Nat → Option Bool × List (Option (List Bool)) := fun i => if h : i < M.rows.length then (some (decide (KI z n ws (Classical.choose (acc i h)))), cdL z.length (Classical.choose (acc i h))) else (none, [])
  have inj : ∀ i j, i < M.rows.length → j < M.rows.length → f i = f j → i = j := fun i j hi hj e => by
    have e' : (if KI z n ws (Classical.choose (acc i hi)) then some (cdL z.length (Classical.choose (acc i hi))) else none) = (if KI z n ws (Classical.choose (acc j hj)) then some (cdL z.length (Classical.choose (acc j hj))) else none) := by
      have h1 : f i = _ := dif_pos hi
      have h2 : f j = _ := dif_pos hj
      rw [h1, h2] at e
      exact e
    obtain ⟨w1, r1⟩ := Classical.choose_spec (acc i hi)
    obtain ⟨w2, r2⟩ := Classical.choose_spec (acc j hj)
    generalize Classical.choose (acc i hi) = v at e' w1 r1
    generalize Classical.choose (acc j hj) = u at e' w2 r2
    refine C.min i j hi hj fun t ht => ?_
    rw [← r1, ← r2, ← runs_app, ← runs_app, rk _ (fun c hc => (List.mem_append.mp hc).elim (w1 c) (ht c)), rk _ (fun c hc => (List.mem_append.mp hc).elim (w2 c) (ht c))]
    have pre : ∀ v, KI z n ws (v ++ t) → KI z n ws v := fun v h y hy hl => h y (hy.trans (List.sublist_append_left _ _)) hl
    by_cases k1 : KI z n ws v
    · by_cases k2 : KI z n ws u
      · rw [if_pos k1, if_pos k2] at e'
        exact KI_same hn (Option.some.inj e') w1 w2 ⟨fun _ => k2, fun _ => k1⟩
      · rw [if_pos k1, if_neg k2] at e'
        cases e'
    · by_cases k2 : KI z n ws u
      · rw [if_neg k1, if_pos k2] at e'
        cases e'
      · exact ⟨fun h => absurd (pre _ h) k1, fun h => absurd (pre _ h) k2⟩
  have nd : ((List.range M.rows.length).map f).Nodup := List.pairwise_map.mpr (List.Pairwise.imp_of_mem (fun {a b} ha hb ne e => ne (inj a b (List.mem_range.mp ha) (List.mem_range.mp hb) e)) List.nodup_range)
  have sub : ∀ x ∈ (List.range M.rows.length).map f, x ∈ none :: (pows (none :: (pows [true, false] z.length).map some) z.length).map some := fun x hx => by
    obtain ⟨i, hi, rfl⟩ := List.mem_map.mp hx
    have h1 : f i = _ := dif_pos (List.mem_range.mp hi)
    rw [h1]
    split
    · exact List.mem_cons_of_mem _ (List.mem_map.mpr ⟨_, cdL_mem _ _, rfl⟩)
    · exact List.mem_cons_self
  have := nd_sub_len nd sub
  rw [List.length_map, List.length_range, List.length_cons, List.length_map, pows_len, List.length_cons, List.length_map, pows_len] at this
  refine Nat.le_trans this ?_
  have l1 := hz.one
  have : ∀ l : Fin 4, ((([true, false] : List Bool).length ^ l.val) + 1) ^ l.val + 1 ≤ 730 := by decide
  exact this ⟨z.length, by omega⟩
/-! ### the order of views -/
def LtLT (a b : Str) : Prop := a.length < b.length ∨ (a.length = b.length ∧ a.cps.toList < b.cps.toList)
def leT (a b : Str) : Bool := decide (a.length < b.length ∨ (a.length = b.length ∧ a.cps.toList ≤ b.cps.toList))
theorem lt_app : ∀ {v u a b : List Nat}, v.length = u.length → v < u → v ++ a < u ++ b
  | [], [], _, _, _, h => absurd h (by simp)
  | x :: v, y :: u, a, b, e, h => by
    rw [List.cons_append, List.cons_append, List.cons_lt_cons_iff]
    rcases List.cons_lt_cons_iff.mp h with q | ⟨q, r⟩
    · exact .inl q
    · exact .inr ⟨q, lt_app (Nat.succ.inj e) r⟩
theorem lt_last : ∀ (v : List Nat) {c d : Nat}, c < d → v ++ [c] < v ++ [d]
  | [], c, d, h => List.cons_lt_cons_iff.mpr (.inl h)
  | x :: v, c, d, h => List.cons_lt_cons_iff.mpr (.inr ⟨rfl, lt_last v h⟩)
theorem rowI_lt {L : Nat} : ∀ m, (rowI L m).Pairwise (· < ·)
  | 0 => by
    show List.Pairwise _ [[]]
    simp
  | m + 1 => List.pairwise_flatMap.mpr ⟨fun v _ => List.pairwise_map.mpr (List.pairwise_lt_range.imp fun h => lt_last v h), List.Pairwise.imp_of_mem (fun {v u} hv hu h x hx y hy => by
      obtain ⟨c, _, rfl⟩ := List.mem_map.mp hx
      obtain ⟨d, _, rfl⟩ := List.mem_map.mp hy
      exact lt_app (by rw [(rowI_word hv).1, (rowI_word hu).1]) h) (rowI_lt m)⟩
theorem shortI_lt {L : Nat} (n : Nat) : (shortI L n).Pairwise fun v u => v.length < u.length ∨ (v.length = u.length ∧ v < u) :=
  List.pairwise_flatMap.mpr ⟨fun m _ => List.Pairwise.imp_of_mem (fun {v u} hv hu h => .inr ⟨by rw [(rowI_word hv).1, (rowI_word hu).1], h⟩) (rowI_lt m), List.pairwise_lt_range.imp fun h x hx y hy => .inl (by rw [(rowI_word hx).1, (rowI_word hy).1]; exact h)⟩
theorem chr_lt {z : Str} (hz : IsLet z) : ∀ {v u : List Nat}, v.length = u.length → (∀ c ∈ v, c < z.length) → (∀ c ∈ u, c < z.length) → v < u → chr z v < chr z u
  | [], [], _, _, _, h => absurd h (by simp)
  | x :: v, y :: u, e, hv, hu, h => by
    have at_ : ∀ {c}, c < z.length → ∃ h : c < z.cps.toList.length, z.cps.toList.getD c 0 = z.cps.toList[c] := fun {c} hc => by
      have hl : c < z.cps.toList.length := by
        rw [Array.length_toList]
        exact hc
      refine ⟨hl, ?_⟩
      rw [List.getD_eq_getElem?_getD, List.getElem?_eq_getElem hl]
      rfl
    refine List.cons_lt_cons_iff.mpr ?_
    show z.cps.toList.getD x 0 < z.cps.toList.getD y 0 ∨ (z.cps.toList.getD x 0 = z.cps.toList.getD y 0 ∧ chr z v < chr z u)
    rcases List.cons_lt_cons_iff.mp h with q | ⟨q, r⟩
    · obtain ⟨h1, e1⟩ := at_ (hv x List.mem_cons_self)
      obtain ⟨h2, e2⟩ := at_ (hu y List.mem_cons_self)
      rw [e1, e2]
      exact .inl (List.pairwise_iff_getElem.mp hz.rise _ _ h1 h2 q)
    · exact .inr ⟨by rw [q], chr_lt hz (Nat.succ.inj e) (fun c hc => hv c (List.mem_cons_of_mem _ hc)) (fun c hc => hu c (List.mem_cons_of_mem _ hc)) r⟩
theorem VL_lt {M : Mach} (k : M.Ok) (n : Nat) : (VL M n).Pairwise LtLT := by
  have h : ((shortI M.z.length n).filter (toldB (RM M) (finM M) 0)).Pairwise fun v u => v.length < u.length ∨ (v.length = u.length ∧ v < u) := List.Pairwise.sublist List.filter_sublist (shortI_lt n)
  refine List.pairwise_map.mpr (List.Pairwise.imp_of_mem (fun {a b} ha hb h => ?_) h)
  have ha := (mem_shortI.mp (List.mem_filter.mp ha).1).2
  have hb := (mem_shortI.mp (List.mem_filter.mp hb).1).2
  have ln : ∀ v : List Nat, (tI M.z v).length = v.length := fun v => by
    show (chr M.z v).toArray.size = _
    rw [List.size_toArray, List.length_map]
  unfold LtLT
  rw [ln, ln]
  rcases h with h | ⟨h1, h2⟩
  · exact .inl h
  · exact .inr ⟨h1, chr_lt k.let_ h1 ha hb h2⟩
theorem leT_total : PySem.W.TotalLe leT where
  trans a b c h1 h2 := by
    have h1 := of_decide_eq_true h1
    have h2 := of_decide_eq_true h2
    refine decide_eq_true ?_
    rcases h1 with h1 | ⟨h1, g1⟩ <;> rcases h2 with h2 | ⟨h2, g2⟩
    · exact .inl (by omega)
    · exact .inl (by omega)
    · exact .inl (by omega)
    · exact .inr ⟨by omega, Std.le_trans g1 g2⟩
  total a b := by
    unfold leT
    rw [decide_eq_true_iff, decide_eq_true_iff]
    rcases Nat.lt_trichotomy a.length b.length with h | h | h
    · exact .inl (.inl h)
    · rcases Std.le_total (a := a.cps.toList) (b := b.cps.toList) with g | g
      · exact .inl (.inr ⟨h, g⟩)
      · exact .inr (.inr ⟨h.symm, g⟩)
    · exact .inr (.inl h)
theorem leT_anti {a b : Str} (h1 : leT a b = true) (h2 : leT b a = true) : a = b := by
  have h1 := of_decide_eq_true h1
  have h2 := of_decide_eq_true h2
  have e : a.cps.toList = b.cps.toList := by
    rcases h1 with h1 | ⟨_, g1⟩
    · rcases h2 with h2 | ⟨h2, _⟩ <;> omega
    · rcases h2 with h2 | ⟨_, g2⟩
      · omega
      · exact Std.le_antisymm g1 g2
  have := congrArg txt e
  rw [txt_list, txt_list] at this
  exact this
theorem rising_one {l m : List Str} (p : m.Perm l) (h : m.Pairwise LtLT) : l.mergeSort leT = m := by
  refine (PySem.W.sort_unique leT_total (h.imp fun q => decide_eq_true ?_) fun c => ?_).symm
  · rcases q with q | ⟨q, r⟩
    · exact .inl q
    · exact .inr ⟨q, Std.le_of_lt r⟩
  · have all : ∀ l : List Str, l.filter (PySem.W.sameRank leT c) = List.replicate (l.filter (PySem.W.sameRank leT c)).length c := fun l => List.eq_replicate_iff.mpr ⟨rfl, fun x hx => by
      have := (List.mem_filter.mp hx).2
      unfold PySem.W.sameRank at this
      rw [Bool.and_eq_true] at this
      exact leT_anti this.2 this.1⟩
    rw [all m, all l, (p.filter _).length_eq]
end LH

namespace LH
open PySem PySem.Spec PyProof.Rows L2 NdefX LamX
/-! ### a machine's data -/
def dI (ns : List Nat) : PyData := .tuple (ns.map fun (n : Nat) => PyData.int (n : Int))
def dM (M : Mach) : PyData := .tuple [.str M.z, .tuple (M.rows.map dI), dI M.ends]
theorem dp_ints {K : PySem.W.Frag} {H : Hp} : ∀ ns : List Nat, DpAll K H (vi ns) (ns.map fun (n : Nat) => PyData.int (n : Int))
  | [] => .nil
  | n :: r => .cons (.int _) (dp_ints r)
theorem dp_rows {K : PySem.W.Frag} {H : Hp} : ∀ {as : List Addr} {rows : List (List Nat)}, RowsAt H as rows → DpAll K H (vr as) (rows.map dI)
  | [], [], _ => .nil
  | [], _ :: _, h => nomatch h.1
  | _ :: _, [], h => nomatch h.1
  | a :: as, r :: rows, h => .cons (.tup (.inl (.inl (h.2 0 a r rfl rfl))) (dp_ints r)) (dp_rows ⟨Nat.succ.inj h.1, fun i b p x y => h.2 (i + 1) b p x y⟩)
theorem dp_mach {K : PySem.W.Frag} {H : Hp} {p : Addr} {M : Mach} (h : MachAt H p M) : Dp K H (.ref p) (dM M) := by
  obtain ⟨t, e, as, h1, h2, h3, h4⟩ := h
  exact .tup (.inl (.inl h1)) (.cons (.str _) (.cons (.tup (.inl (.inl h2)) (dp_rows h3)) (.cons (.tup (.inl (.inl h4)) (dp_ints _)) .nil)))
theorem can_ints : ∀ ns : List Nat, PyData.canLayAll0 (ns.map fun (n : Nat) => PyData.int (n : Int)) = true
  | [] => rfl
  | _ :: r => by simp [PyData.canLayAll0, PyData.canLay0, can_ints r]
theorem can_rows : ∀ rows : List (List Nat), PyData.canLayAll0 (rows.map dI) = true
  | [] => rfl
  | r :: rows => by
    have h1 : PyData.canLay0 (dI r) = true := by
      unfold dI
      simp [PyData.canLay0, can_ints]
    simp [PyData.canLayAll0, h1, can_rows rows]
theorem depth_ints : ∀ ns : List Nat, PyData.depthAll (ns.map fun (n : Nat) => PyData.int (n : Int)) = 0
  | [] => rfl
  | _ :: r => by simp [PyData.depthAll, PyData.depth, depth_ints r]
theorem depth_rows : ∀ rows : List (List Nat), PyData.depthAll (rows.map dI) ≤ 1
  | [] => Nat.zero_le _
  | r :: rows => by
    have h1 : PyData.depth (dI r) = 1 := by
      unfold dI
      simp [PyData.depth, depth_ints]
    simp [PyData.depthAll, h1, depth_rows rows]
theorem strOk_let {z : Str} (h : IsLet z) : PyData.strOk z = true := by
  unfold PyData.strOk
  rw [Array.all_eq_true']
  intro c hc
  have := (h.small c (Array.mem_toList_iff.mpr hc)).2
  simp
  omega
theorem can_mach {M : Mach} (k : M.Ok) : (dM M).canLay0 = true := by
  have h1 := strOk_let k.let_
  have h2 : PyData.canLay0 (dI M.ends) = true := by
    unfold dI
    simp [PyData.canLay0, can_ints]
  unfold dM
  simp [PyData.canLay0, PyData.canLayAll0, h1, h2, can_rows]
theorem shaped_mach {M : Mach} (k : M.Ok) : SeqAt.shaped (dM M) = true := by
  unfold SeqAt.shaped
  rw [can_mach k]
  have h1 := depth_rows M.rows
  have h2 : PyData.depth (dI M.ends) = 1 := by
    unfold dI
    simp [PyData.depth, depth_ints]
  have : (dM M).depth ≤ 64 := by
    unfold dM
    simp only [PyData.depth, PyData.depthAll, h2]
    omega
  rw [decide_eq_true this]
  rfl
theorem ne_mach {M : Mach} (k : M.Ok) : (!PyData.eqv (dM M) (dM M)) = false := by
  rw [SeqAt.eqv_refl _ (can_mach k)]
  rfl
theorem shaped_vi (ns : List Nat) : SeqAt.shaped (.list (ns.map fun (n : Nat) => PyData.int (n : Int))) = true := by
  have all : PyData.canLayAll0 (ns.map fun (n : Nat) => PyData.int (n : Int)) = true ∧ PyData.depthAll (ns.map fun (n : Nat) => PyData.int (n : Int)) = 0 := by
    induction ns with
    | nil => exact ⟨rfl, rfl⟩
    | cons n r ih =>
      refine ⟨?_, ?_⟩
      · show (true && PyData.canLayAll0 (r.map fun (n : Nat) => PyData.int (n : Int))) = true
        rw [ih.1]
        rfl
      · show max 0 (PyData.depthAll (r.map fun (n : Nat) => PyData.int (n : Int))) = 0
        rw [ih.2]
        rfl
  unfold SeqAt.shaped
  rw [Bool.and_eq_true]
  refine ⟨all.1, decide_eq_true ?_⟩
  show PyData.depthAll (ns.map fun (n : Nat) => PyData.int (n : Int)) + 1 ≤ 64
  omega
end LH

namespace LH
open PySem PySem.Spec PyProof.Rows L2 NdefX LamX LU
theorem lstN {H H' : Hp} {a : Addr} {xs : List V} (x : ExtN H H') (e : H a = some (.lst xs)) : H' a = some (.lst xs) := x a _ e (by intro ps z; cases z)
theorem tupsN {H H' : Hp} (x : ExtN H H') : Tups H H' := fun b xs e => x b _ e (by intro ps z; cases z)
theorem tabs_off {T : List NTab} {H H' : Hp} {r : Addr} {xs : List V} (t : TabsN T H) (hr : H r = some (.lst xs)) (e : ∀ b o, b ≠ r → H b = some o → H' b = some o) : TabsN T H' := fun p hp => by
  obtain ⟨ps, h1, h2, h3⟩ := t p hp
  refine ⟨ps, e _ _ (fun z => by rw [z, hr] at h1; cases h1) h1, h2, fun pos cv hc => ?_⟩
  obtain ⟨c, e1, e2⟩ := h3 pos cv hc
  refine ⟨c, e1, e _ _ (fun z => ?_) e2⟩
  rw [z, hr] at e2
  unfold CodeO at e2
  cases e2
theorem RowsAt.nil {H : Hp} : RowsAt H [] [] := ⟨rfl, fun i a row x => by simp at x⟩
theorem RowsAt.cons {H : Hp} {a : Addr} {as : List Addr} {r : List Nat} {rows : List (List Nat)} (h : H a = some (.tup (vi r))) (t : RowsAt H as rows) : RowsAt H (a :: as) (r :: rows) := ⟨congrArg (· + 1) t.1, fun i b row x y => by
  cases i with
  | zero =>
    cases x
    cases y
    exact h
  | succ i => exact t.2 i b row (by simpa using x) (by simpa using y)⟩
/-- all that is tracked stands, but for what stands at r, and the tables' counts -/
def OffN (r : Addr) (H H' : Hp) : Prop := ∀ b o, b ≠ r → H b = some o → (∀ ps, o ≠ .tbl ps) → H' b = some o
theorem OffN.refl (r : Addr) (H : Hp) : OffN r H H := fun _ _ _ h _ => h
theorem OffN.trans {r : Addr} {H H1 H2 : Hp} (a : OffN r H H1) (b : OffN r H1 H2) : OffN r H H2 := fun c o n h t => b c o n (a c o n h t) t
theorem OffN.off {r : Addr} {H H' : Hp} (a : Off r H H') : OffN r H H' := fun b o n h _ => a b o n h
theorem OffN.ext {r : Addr} {H H' : Hp} (a : ExtN H H') : OffN r H H' := fun b o _ h t => a b o h t
theorem OffN.same {r : Addr} {H H' : Hp} (a : Same H H') : OffN r H H' := fun b o _ h _ => a b o h
theorem OffN.lst {r a : Addr} {H H' : Hp} {xs : List V} (x : OffN r H H') (n : a ≠ r) (e : H a = some (.lst xs)) : H' a = some (.lst xs) := x a _ n e (by intro ps z; cases z)
theorem OffN.tup {r a : Addr} {H H' : Hp} {xs : List V} (x : OffN r H H') (n : a ≠ r) (e : H a = some (.tup xs)) : H' a = some (.tup xs) := x a _ n e (by intro ps z; cases z)
theorem OffN.mut {r p : Addr} {H H' : Hp} {o : HO} (e : OffN r H H') (h : H p = none) : OffN r H (upd H' p o) := fun a u n ha t => by
  rw [upd_ne (ne_of_none ha h)]
  exact e a u n ha t
/-! ### texts as data -/
theorem dpAll_str {K : PySem.W.Frag} {H : Hp} : ∀ xs : List Str, DpAll K H (xs.map V.str) (xs.map PyData.str)
  | [] => .nil
  | c :: r => .cons (.str _) (dpAll_str r)
theorem canAll_str : ∀ xs : List Str, (∀ x ∈ xs, PyData.strOk x = true) → PyData.canLayAll0 (xs.map PyData.str) = true
  | [], _ => rfl
  | x :: r, h => by
    have h1 := h x List.mem_cons_self
    have h2 := canAll_str r fun y hy => h y (List.mem_cons_of_mem _ hy)
    simp [PyData.canLayAll0, PyData.canLay0, h1, h2]
theorem depthAll_str : ∀ xs : List Str, PyData.depthAll (xs.map PyData.str) = 0
  | [] => rfl
  | _ :: r => by simp [PyData.depthAll, PyData.depth, depthAll_str r]
theorem shaped_strs (xs : List Str) (h : ∀ x ∈ xs, PyData.strOk x = true) : SeqAt.shaped (.list (xs.map PyData.str)) = true := by
  simp [SeqAt.shaped, PyData.canLay0, PyData.depth, canAll_str xs h, depthAll_str]
theorem eqv_strs (xs : List Str) : PyData.eqv (.list (xs.map PyData.str)) (.list (xs.map PyData.str)) = true := by
  have h : PyData.eqvAll (xs.map PyData.str) (xs.map PyData.str) = true := by
    induction xs with
    | nil => rfl
    | cons x r ih => simp [PyData.eqvAll, PyData.eqv, ih]
  simp [PyData.eqv, h]
theorem eqv_nilS (xs : List Str) : PyData.eqv (.list (xs.map PyData.str)) (.list []) = decide (xs = []) := by
  cases xs with
  | nil => rfl
  | cons x r => simp [PyData.eqv, PyData.eqvAll]
theorem strOk_in {z x : Str} (hz : IsLet z) (h : ∀ c ∈ x.cps.toList, c ∈ z.cps.toList) : PyData.strOk x = true := by
  unfold PyData.strOk
  rw [Array.all_eq_true']
  intro c hc
  have := (hz.small c (h c (Array.mem_toList_iff.mpr hc))).2
  simp
  omega
theorem flat_vS : ∀ ws : List Str, (vS ws).all flatV = true
  | [] => rfl
  | _ :: r => flat_vS r
theorem inV_vS (x : Str) : ∀ ws : List Str, inV (.str x) (vS ws) = decide (x ∈ ws)
  | [] => rfl
  | a :: r => by
    show ((decide (a = x)) || inV (.str x) (vS r)) = _
    rw [inV_vS x r]
    by_cases e : a = x
    · subst e
      simp
    · have e2 : ¬ x = a := fun q => e q.symm
      simp [e, e2]
end LH

namespace LH
open PySem PySem.Spec PyProof.Rows L2 NdefX LamX LU
theorem seqN {K : PySem.W.Frag} {r a : Addr} {H H' : Hp} {xs : List V} (e : OffN r H H') (hr : H r = none) (h : SqL K H a xs) : SqL K H' a xs := by
  rcases h with (h | ⟨o, h⟩) | h
  · exact .inl (.inl (e _ _ (ne_of_none h hr) h (by intro ps z; cases z)))
  · exact .inl (.inr ⟨o, e _ _ (ne_of_none h hr) h (by intro ps z; cases z)⟩)
  · exact .inr h
theorem cutV_ints (ns : List Int) (lo hi : Option Int) : ∃ ms : List Int, cutV (ns.map V.int) lo hi = ms.map V.int ∧ ms.length ≤ ns.length := by
  unfold cutV
  rw [← List.map_drop, ← List.map_take]
  refine ⟨_, rfl, ?_⟩
  rw [List.length_take, List.length_drop]
  omega
/-- what stands of the law's list of cells -/
def CellsAt (H : Hp) (p : Addr) (bas : List Addr) : Prop := H p = some (.lst (bas.map V.ref)) ∧ ∀ (j : Nat) (b : Addr), bas[j]? = some b → ∃ c : Int, H b = some (.tup [.int (j : Nat), .int c])
theorem CellsAt.off {r p : Addr} {bas : List Addr} {H H' : Hp} (e : OffN r H H') (hr : H r = none) (h : CellsAt H p bas) : CellsAt H' p bas :=
  ⟨e.lst (ne_of_none h.1 hr) h.1, fun j b hb => by
    obtain ⟨c, hc⟩ := h.2 j b hb
    exact ⟨c, e.tup (ne_of_none hc hr) hc⟩⟩
end LH

namespace LH
open PySem PySem.Spec PyProof.Rows L2 NdefX LamX LU
theorem row_neS {H : Hp} {r l : Addr} {ws : List Str} (R : RowAt H r) (e : H l = some (.lst (vS ws))) : r ≠ l := fun z => by
  obtain ⟨a, b, c, e2, _⟩ := R
  rw [z, e] at e2
  have h : vS ws = [.int a, .int b, .int c] := by
    have := Option.some.inj e2
    exact HO.lst.inj this
  cases ws with
  | nil => cases h
  | cons u us =>
    have := congrArg List.head? h
    cases this
theorem cells_int {ns : List Int} {k : Nat} {i : Nat} {x : V} {lo hi : Option Int} (h : (cutV (ns.map V.int) lo hi ++ (List.replicate k [V.int 0]).flatten)[i]? = some x) : ∃ c, x = .int c := by
  have hm := List.mem_of_getElem? h
  rcases List.mem_append.mp hm with z | z
  · unfold cutV at z
    obtain ⟨c, _, rfl⟩ := List.mem_map.mp (List.mem_of_mem_drop (List.mem_of_mem_take z))
    exact ⟨c, rfl⟩
  · obtain ⟨l, hl, hx⟩ := List.mem_flatten.mp z
    rw [(List.mem_replicate.mp hl).2] at hx
    exact ⟨0, List.mem_singleton.mp hx⟩
theorem RowAt.extN {r : Addr} {H H' : Hp} (x : RowAt H r) (e : ExtN H H') : RowAt H' r := by
  obtain ⟨a, b, c, h, q⟩ := x
  exact ⟨a, b, c, lstN e h, q⟩
theorem RowAt.same {r : Addr} {H H' : Hp} (x : RowAt H r) (e : Same H H') : RowAt H' r := by
  obtain ⟨a, b, c, h, q⟩ := x
  exact ⟨a, b, c, e _ _ h, q⟩
theorem tabs_row {T : List NTab} {H H' : Hp} {r : Addr} (t : TabsN T H) (R : RowAt H r) (o : Off r H H') : TabsN T H' := by
  obtain ⟨a, b, c, h, _⟩ := R
  exact tabs_off t h o
theorem lit1 {H : Hp} {z : Str} {r1 es : List Nat} {a1 a4 a5 a6 : Addr} (m1 : H a1 = none) (m4 : (upd H a1 (.tup (vi r1))) a4 = none) (m5 : (upd (upd H a1 (.tup (vi r1))) a4 (.tup [.ref a1])) a5 = none) (m6 : (upd (upd (upd H a1 (.tup (vi r1))) a4 (.tup [.ref a1])) a5 (.tup (vi es))) a6 = none) :
    Same H (upd (upd (upd (upd H a1 (.tup (vi r1))) a4 (.tup [.ref a1])) a5 (.tup (vi es))) a6 (.tup [.str z, .ref a4, .ref a5])) ∧ MachAt (upd (upd (upd (upd H a1 (.tup (vi r1))) a4 (.tup [.ref a1])) a5 (.tup (vi es))) a6 (.tup [.str z, .ref a4, .ref a5])) a6 ⟨z, [r1], es⟩ := by
  have s6 := same_new (o := .tup [.str z, .ref a4, .ref a5]) m6
  have s5 := (same_new (o := .tup (vi es)) m5).trans s6
  have s4 := (same_new (o := .tup [.ref a1]) m4).trans s5
  have s1 := (same_new (o := .tup (vi r1)) m1).trans s4
  exact ⟨s1, a4, a5, [a1], upd_same, s5 _ _ upd_same, .cons (s4 _ _ upd_same) .nil, s6 _ _ upd_same⟩
theorem s_ab : (Str.ofString "ab" : Str) = ⟨#[97, 98]⟩ := by decide +kernel
theorem let_ab : IsLet ⟨#[97, 98]⟩ := ⟨by decide, by decide, by decide, by decide⟩
theorem pow1000 {z : Str} (hz : IsLet z) {n : Nat} (h3 : n ≤ 3) : z.length ^ n ≤ 1000 := by
  have b := hz.five
  exact Nat.le_trans (Nat.pow_le_pow_left b n) (Nat.le_trans (Nat.pow_le_pow_right (by decide) h3) (by decide))
section
variable {P : Program} {w : World} {K : PySem.W.Frag} {mg : Str → Option Value} {base : Heap}
def sp_law_cells (K : PySem.W.Frag) : Sp := fun vs H Q _ => ∃ (a : Addr) (ns : List Int), vs = [.ref a] ∧ SqL K H a (ns.map V.int) ∧ ns.length ≤ 63 ∧
  ∀ (H' : Hp) (p : Addr) (bas : List Addr), Same H H' → H p = none → H' p = some (.lst (bas.map V.ref)) → bas.length ≤ 100 → (∀ (j : Nat) (b : Addr), bas[j]? = some b → ∃ c : Int, H' b = some (.tup [.int (j : Nat), .int c])) → Q (.ref p) H'
theorem ok_law_cells (T : TX K mg) : FnOk P w K mg base CX0 1 T.a_law_cells T.fd_law_cells ["script"] (sp_law_cells K) := by
  refine T.F_law_cells.ok sc_law_cells (fun vs H Q E h => ?_) (fun cdv A outer s H vs Q E hr h => ?_)
  · obtain ⟨a, ns, rfl, _⟩ := h
    rfl
  · obtain ⟨a, ns, rfl, hS, hn, q⟩ := h
    refine ⟨_, (pss_one (ps_ret (pe_listEnum K rfl (by rfl) T.m_list (by rfl) T.m_enumerate (pa_cons (pe_op op_cat (pe_slice (sl_listK K rfl) (pv 0) po_none (po_some pe_int)) (pe_op op_rep (pe_lst (pa_cons pe_int pa_nil)) (pe_callTy call_int1 (by rfl) T.m_int (by decide +kernel) (pa_cons (pe_cmpR (op_eqD hr.units) (pv 0) (pe_lst pa_nil) (nomark _)) pa_nil)))) pa_nil)))), ?_⟩
    refine ⟨.ref a, rfl, 63, rfl, a, _, rfl, hS, fun p1 n1 => ?_⟩
    have s1 := same_new (o := .lst (cutV (ns.map V.int) none (some 63))) n1
    refine ⟨by show 1 ≤ sizeLine; decide, fun p2 n2 => ?_⟩
    have s2 := same_new (o := .lst [.int 0]) n2
    refine ⟨.ref a, rfl, by show 0 ≤ sizeLine; decide, fun p3 n3 => ?_⟩
    have s3 := same_new (o := .lst []) n3
    refine ⟨.list (ns.map PyData.int), .list [], .lst ((s1.trans (s2.trans s3)).seq hS) (dpI ns), .lst (.inl (.inl upd_same)) .nil, shapedI ns, by decide +kernel, ?_⟩
    generalize PyData.eqv (.list (ns.map PyData.int)) (.list []) = b
    refine .inr ⟨b, rfl, ?_⟩
    have lc := cutV_length (ns.map V.int) none (some 63)
    rw [List.length_map] at lc
    refine ⟨p2, _, _, rfl, rfl, s3 _ _ upd_same, by cases b <;> decide, by cases b <;> decide, by cases b <;> decide, fun p4 n4 => ?_⟩
    have s4 := same_new (o := .lst (List.replicate ((if b = true then 1 else 0 : Int)).toNat [V.int 0]).flatten) n4
    have lr : (List.replicate ((if b = true then 1 else 0 : Int)).toNat [V.int 0]).flatten.length ≤ 1 := by cases b <;> decide
    refine ⟨p1, p4, _, _, rfl, rfl, s4 _ _ (s3 _ _ (s2 _ _ upd_same)), upd_same, Nat.le_trans (show _ ≤ 1000 by omega) (by decide), fun p5 n5 => ?_⟩
    refine ⟨p5, _, rfl, .inl (.inl upd_same), fun H' p bas sm np ep pr => ?_⟩
    have s5 := (s1.trans (s2.trans (s3.trans s4))).trans (same_new (o := .lst (cutV (ns.map V.int) none (some 63) ++ (List.replicate ((if b = true then 1 else 0 : Int)).toNat [V.int 0]).flatten)) n5)
    obtain ⟨lb, pb⟩ := pr
    refine q H' p bas (s5.trans sm) (s5.free np) ep (by rw [lb, List.length_append]; omega) fun j c hj => ?_
    obtain ⟨x, hx, e⟩ := pb j c hj
    obtain ⟨m, rfl⟩ := cells_int hx
    exact ⟨m, e⟩
end
/-! ### letters -/
def tens : List Str := ["ab", "abc", "a", "abcd", "xz", "kmz", "abcde", "bdfhj", "acz", "pqrs"]
theorem tens_let : ∀ z ∈ tens, z.length ≤ 5 ∧ 1 ≤ (cutS z none (some 4)).length ∧ (cutS z none (some 4)).length ≤ 4 ∧ (cutS z none (some 4)).cps.toList.Pairwise (· < ·) ∧ (∀ c ∈ (cutS z none (some 4)).cps.toList, 97 ≤ c ∧ c ≤ 122) := by decide +kernel
section
variable {P : Program} {w : World} {K : PySem.W.Frag} {mg : Str → Option Value} {base : Heap}
/-! ### _law_letters -/
def sp_law_letters : Sp := fun vs H Q _ => ∃ r : Addr, vs = [.ref r, .int 4] ∧ RowAt H r ∧ ∀ H' z, Off r H H' → RowAt H' r → IsLet z → z.length ≤ 4 → Q (.str z) H'
theorem ok_law_letters (T : TX K mg) : FnOk P w K mg base CX0 2 T.a_law_letters T.fd_law_letters ["hand", "most"] sp_law_letters := by
  have G_law_draw : FnOk P w K mg base CX0 1 T.a_law_draw T.fd_law_draw ["hand", "limit"] sp_law_draw := ok_law_draw T
  refine T.F_law_letters.ok sc_law_letters (fun vs H Q E h => ?_) (fun cdv A outer s H vs Q E hr h => ?_)
  · obtain ⟨r, rfl, _⟩ := h
    rfl
  · obtain ⟨r, rfl, hR, q⟩ := h
    refine ⟨_, (pss_cons (ps_set (i := 2) sc_law_letters.nd rfl (Or.inl rfl) (pe_ix (ix_listK K rfl) (pe_lst (pa_cons pe_str (pa_cons pe_str (pa_cons pe_str (pa_cons pe_str (pa_cons pe_str (pa_cons pe_str (pa_cons pe_str (pa_cons pe_str (pa_cons pe_str (pa_cons pe_str pa_nil))))))))))) (pe_call G_law_draw (hr.mono (by decide)) (by rfl) T.g_law_draw T.F_law_draw.kp T.b_law_draw .nil pass0 (pa_cons (pv 0) (pa_cons pe_int pa_nil))) (fun _ _ => rfl)))
      (pss_one (ps_ret (pe_slice sl_str (pv 2) po_none (po_some (pv 1)))))), ?_⟩
    refine ⟨by show 10 ≤ sizeLine; decide, fun l nl => ?_⟩
    refine ⟨.ref r, rfl, r, 10, rfl, hR.new nl, by decide, by decide, fun H1 g o1 R1 g0 g1 => ?_⟩
    have el : H1 l = some (.lst (vS tens)) := o1 _ _ (hR.ne nl).symm upd_same
    obtain ⟨m, rfl⟩ : ∃ m : Nat, g = (m : Int) := ⟨g.toNat, by omega⟩
    have hm : m < tens.length := by show m < 10; omega
    have hz := tens_let _ (List.getElem_mem hm)
    have ez : (vS tens)[m]? = some (.str tens[m]) := by rw [List.getElem?_map, List.getElem?_eq_getElem hm]; rfl
    generalize tens[m] = z at hz ez
    obtain ⟨z0, z1, z2, z3, z4⟩ := hz
    refine ⟨l, _, (m : Int), .str z, rfl, rfl, .inl (.inl el), atI_nat ez, .str z, rfl, .int 4, rfl, 4, rfl, z, rfl, Nat.le_trans z0 (by decide), ?_⟩
    exact q _ _ ((Off.new nl).trans o1) R1 ⟨z1, Nat.le_trans z2 (by decide), z3, z4⟩ z2
/-! ### _law_size -/
def sp_law_size : Sp := fun vs H Q _ => ∃ (r : Addr) (z : Str), vs = [.ref r, .str z] ∧ RowAt H r ∧ IsLet z ∧ ∀ H' (n : Nat), Off r H H' → RowAt H' r → 1 ≤ n → n ≤ 3 → (4 ≤ z.length → n ≤ 2) → Q (.int (n : Int)) H'
theorem ok_law_size (T : TX K mg) : FnOk P w K mg base CX0 2 T.a_law_size T.fd_law_size ["hand", "letters"] sp_law_size := by
  have G_law_draw : FnOk P w K mg base CX0 1 T.a_law_draw T.fd_law_draw ["hand", "limit"] sp_law_draw := ok_law_draw T
  refine T.F_law_size.ok sc_law_size (fun vs H Q E h => ?_) (fun cdv A outer s H vs Q E hr h => ?_)
  · obtain ⟨r, z, rfl, _⟩ := h
    rfl
  · obtain ⟨r, z, rfl, hR, hz, q⟩ := h
    refine ⟨_, (pss_one (ps_ret (pe_op op_add pe_int (pe_call G_law_draw (hr.mono (by decide)) (by rfl) T.g_law_draw T.F_law_draw.kp T.b_law_draw .nil pass0 (pa_cons (pv 0) (pa_cons (pe_op op_add pe_int (pe_callTy call_int1 (by rfl) T.m_int (by decide +kernel) (pa_cons (pe_cmpR op_lt (pe_callB call_len_str (by rfl) T.m_len (by decide +kernel) (pa_cons (pv 1) pa_nil)) pe_int (nomark _)) pa_nil))) pa_nil)))))), ?_⟩
    have h5 := hz.five
    have hs : z.length ≤ sizeLine := Nat.le_trans h5 (by decide)
    have pos : ∀ a : Bool, 0 < (2 + (if a = true then 1 else 0) : Int) ∧ (2 + (if a = true then 1 else 0) : Int) < 1073741824 ∧ (2 + (if a = true then 1 else 0) : Int) ≤ 3 := by decide
    refine ⟨.ref r, rfl, .str z, rfl, z, rfl, hs, (z.length : Int), 4, rfl, rfl, .inr ⟨_, rfl, 2, _, rfl, rfl, r, _, rfl, hR, (pos _).1, (pos _).2.1, fun H1 g o1 R1 g0 g1 => ⟨1, g, rfl, rfl, ?_⟩⟩⟩
    have g2 := Int.lt_of_lt_of_le g1 (pos _).2.2
    obtain ⟨m, rfl⟩ : ∃ m : Nat, g = (m : Int) := ⟨g.toNat, by omega⟩
    show Q (.int (1 + (m : Int))) H1
    rw [show (1 + (m : Int)) = ((1 + m : Nat) : Int) by omega]
    refine q H1 (1 + m) o1 R1 (by omega) (by omega) fun h4 => ?_
    have e : ¬ ((z.length : Int) < 4) := by omega
    rw [decide_eq_false e] at g1
    have g1 : (m : Int) < 2 + (if false = true then 1 else 0) := g1
    rw [if_neg Bool.false_ne_true] at g1
    omega
end
end LH

namespace LH
open PySem PySem.Spec PyProof.Rows L2 NdefX LamX LU
theorem cutV_from (ws : List Str) (a : Int) : cutV (vS ws) (some a) none = vS (ws.drop (HT.sIx ws.length 0 (some a))) := by
  unfold cutV
  rw [List.length_map]
  show _ = List.map _ _
  rw [List.map_drop]
  refine List.take_of_length_le ?_
  rw [List.length_drop, List.length_map]
  exact Nat.le_refl _
theorem cutV_upto (ws : List Str) (a : Int) : cutV (vS ws) none (some a) = vS (ws.take (HT.sIx ws.length 0 (some a))) := by
  unfold cutV
  rw [List.length_map]
  show _ = List.map _ _
  rw [List.map_take]
  rfl
section
variable {P : Program} {w : World} {K : PySem.W.Frag} {mg : Str → Option Value} {base : Heap}
/-! ### _law_drawn_views -/
def DInv (r p D : Addr) (H : Hp) (ws : List Str) (i : Nat) (H' : Hp) : Prop := RowAt H' r ∧ Off r H H' ∧ H' p = some (.lst (vS ws)) ∧ ∃ fs : List Str, H' D = some (.lst (vS fs)) ∧ fs.length ≤ i ∧ ∀ x ∈ fs, x ∈ ws
theorem DInv.draw {r p D : Addr} {H H' H2 : Hp} {ws : List Str} {i : Nat} (h : DInv r p D H ws i H') (rp : r ≠ p) (rD : r ≠ D) (o : Off r H' H2) (R : RowAt H2 r) : DInv r p D H ws i H2 := by
  obtain ⟨_, a, b, fs, c, d, e⟩ := h
  exact ⟨R, a.trans o, o _ _ rp.symm b, fs, o _ _ rD.symm c, d, e⟩
theorem DInv.put {r p D : Addr} {H H' : Hp} {ws : List Str} {i : Nat} {v : Str} (h : DInv r p D H ws i H') (rD : r ≠ D) (pD : p ≠ D) (fD : H D = none) (hv : v ∈ ws) : ∃ fs : List Str, H' D = some (.lst (vS fs)) ∧ fs.length ≤ i ∧ DInv r p D H ws (i + 1) (upd H' D (.lst (vS fs ++ [.str v]))) := by
  obtain ⟨R, a, b, fs, c, d, e⟩ := h
  refine ⟨fs, c, d, R.upd rD, a.mut fD, by rw [upd_ne pD]; exact b, fs ++ [v], by rw [upd_same, vS_snoc], by rw [List.length_append]; show fs.length + 1 ≤ i + 1; omega, mem_snoc e hv⟩
theorem DInv.skip {r p D : Addr} {H H' : Hp} {ws : List Str} {i : Nat} (h : DInv r p D H ws i H') : DInv r p D H ws (i + 1) H' := by
  obtain ⟨R, a, b, fs, c, d, e⟩ := h
  exact ⟨R, a, b, fs, c, by omega, e⟩
def sp_law_drawn_views : Sp := fun vs H Q _ => ∃ (r : Addr) (z : Str) (n : Nat), vs = [.ref r, .str z, .int (n : Int)] ∧ RowAt H r ∧ IsLet z ∧ n ≤ 100 ∧ z.length ^ n ≤ 1000 ∧
  ∀ H' p ws, Off r H H' → RowAt H' r → H p = none → H' p = some (.lst (vS ws)) → ws.length ≤ 1000 * (n + 1) → WOk z n ws → Q (.ref p) H'
theorem ok_law_drawn_views (T : TX K mg) : FnOk P w K mg base CX0 2 T.a_law_drawn_views T.fd_law_drawn_views ["hand", "letters", "size"] sp_law_drawn_views := by
  have G_law_draw : FnOk P w K mg base CX0 1 T.a_law_draw T.fd_law_draw ["hand", "limit"] sp_law_draw := ok_law_draw T
  have G_law_short : FnOk P w K mg base CX0 1 T.a_law_short T.fd_law_short ["letters", "size"] sp_law_short := ok_law_short T
  refine T.F_law_drawn_views.ok sc_law_drawn_views (fun vs H Q E h => ?_) (fun cdv A outer s H vs Q E hr h => ?_)
  · obtain ⟨r, z, n, rfl, _⟩ := h
    rfl
  · obtain ⟨r, z, n, rfl, hR, hz, hn, hp, q⟩ := h
    refine ⟨_, (pss_cons (ps_set (i := 3) sc_law_drawn_views.nd rfl (Or.inr rfl) (pe_op op_add pe_int (pe_call G_law_draw (hr.mono (by decide)) (by rfl) T.g_law_draw T.F_law_draw.kp T.b_law_draw .nil pass0 (pa_cons (pv 0) (pa_cons pe_int pa_nil)))))
      (pss_cons (ps_setLc (i := 4) (own := [("view", 5)]) (g := gName 5) (by rfl) sc_law_drawn_views.nd rfl rfl (sw_true rfl rfl rfl (by decide +kernel)) (pi_listK K rfl (pe_call G_law_short (hr.mono (by decide)) (by rfl) T.g_law_short T.F_law_short.kp T.b_law_short .nil pass0 (pa_cons (pv 1) (pa_cons (pv 2) pa_nil)))) (blkOk_by (own := [("view", 5)]) (N := N_law_drawn_views) (by kernel_rfl)) (fun _ _ _ _ _ => (pg_name (i := 5) sc_law_drawn_views.nd rfl (by first | exact Or.inl rfl | exact Or.inr rfl))) (fun _ _ _ _ _ => (pts_one (PW.pt (pw_or (pt_cmpR op_eq (pv 5) pe_str (nomark _)) (pw_or1 (pt_cmpR op_lt (pe_call G_law_draw (hr.mono (by decide)) (by rfl) T.g_law_draw T.F_law_draw.kp T.b_law_draw .nil pass0 (pa_cons (pv 0) (pa_cons pe_int pa_nil))) (pv 3) (nomark _))))))) (fun _ _ _ _ _ => (pv 5)))
      (C8.pss_cut (ps_if (pt_cmpR op_eq (pe_call G_law_draw (hr.mono (by decide)) (by rfl) T.g_law_draw T.F_law_draw.kp T.b_law_draw .nil pass0 (pa_cons (pv 0) (pa_cons pe_int pa_nil))) pe_int (nomark _))
        (pss_one (ps_set (i := 4) sc_law_drawn_views.nd rfl (Or.inl rfl) (pe_slice (sl_listK K rfl) (pv 4) (po_some pe_int) po_none)))
        pss_nil)
      (pss_one (ps_ret (pv 4)))))), ?_⟩
    have sl' : ∀ m, m ≤ 1000000 → m < sizeLine := fun m hm => Nat.lt_of_le_of_lt hm (by decide)
    refine ⟨.ref r, rfl, r, 4, rfl, hR, by decide, by decide, fun H1 g o1 R1 g0 g1 => ⟨1, g, rfl, rfl, ?_⟩⟩
    refine ⟨.str z, rfl, .int (n : Int), rfl, z, n, rfl, hz, hn, hp, fun H2 p ws s2 np ep lw okw allw => ⟨p, rfl, ⟨_, .inl (.inl ep)⟩, fun D nD => ?_⟩⟩
    obtain ⟨_, _, _, er1, _⟩ := id R1
    have R2 : RowAt H2 r := by
      obtain ⟨a, b, c, e, f⟩ := R1
      exact ⟨a, b, c, s2 _ _ e, f⟩
    have rp : r ≠ p := ne_of_none er1 np
    have rD : r ≠ D := R2.ne nD
    have pD : p ≠ D := ne_of_none ep nD
    have o2 := o1.trans (Off.of s2)
    have fD : H D = none := o2.free rD nD
    have fp : H p = none := o1.free rp np
    refine lc_it (walk_list (K := K) (a := p) (xs := vS ws)) (fun i H' => DInv r p D H ws i H') ⟨R2.new nD, o2.trans (Off.new nD), same_new nD _ _ ep, [], upd_same, Nat.le_refl _, fun _ h => nomatch h⟩ (fun i H' _ hW => .inl (.inl hW.2.2.1)) (fun i x H3 H3' hi hW hY => ?_) (fun H3 hW => ?_)
    · obtain ⟨rfl, hx⟩ := hY
      obtain ⟨v, hv, rfl⟩ := str_at hx
      have hv' := List.mem_of_getElem? hv
      rw [List.length_map] at hi
      have big : i ≤ 1000000 := by omega
      refine ⟨rfl, .str v, rfl, rfl, _, rfl, ite2 (fun y => iteT ?_) (fun y => ?_)⟩
      · obtain ⟨fs, e1, e2, e3⟩ := hW.put rD pD fD hv'
        exact ⟨.str v, rfl, vS fs, e1, sl' _ (by rw [List.length_map]; omega), e3⟩
      · refine ⟨.ref r, rfl, r, 5, rfl, hW.1, by decide, by decide, fun H4 g4 o4 R4 _ _ => ⟨.int (1 + g), rfl, _, _, rfl, rfl, _, rfl, ite2 (fun y => ?_) (fun y => ?_)⟩⟩
        · obtain ⟨fs, e1, e2, e3⟩ := (hW.draw rp rD o4 R4).put rD pD fD hv'
          exact ⟨.str v, rfl, vS fs, e1, sl' _ (by rw [List.length_map]; omega), e3⟩
        · exact (hW.draw rp rD o4 R4).skip
    · obtain ⟨R3, o3, e3, fs, eD, lf, inn⟩ := hW
      rw [List.length_map] at lf
      refine ⟨fun σ' H' => ∃ (f : Addr) (us : List Str), σ' = [some (.ref r), some (.str z), some (.int (n : Int)), some (.int (1 + g)), some (.ref f), none] ∧ Off r H H' ∧ RowAt H' r ∧ H f = none ∧ H' f = some (.lst (vS us)) ∧ us.length ≤ ws.length ∧ ∀ x ∈ us, x ∈ ws, ?_, fun σ' H' hM => ?_⟩
      · refine ⟨.ref r, rfl, r, 12, rfl, R3, by decide, by decide, fun H4 g4 o4 R4 _ _ => ⟨rfl, _, rfl, ite2 (fun y => ?_) (fun y => ?_)⟩⟩
        · have eD4 := o4 _ _ rD.symm eD
          refine ⟨.ref D, rfl, 1, rfl, D, _, rfl, .inl (.inl eD4), fun p2 n2 => ?_⟩
          have o34 := o3.trans o4
          refine ⟨p2, fs.drop (HT.sIx fs.length 0 (some 1)), rfl, o34.trans (Off.new n2), R4.new n2, o34.free (R4.ne n2) n2, ?_, ?_, fun x hx => inn x (List.mem_of_mem_drop hx)⟩
          · rw [upd_same, cutV_from]
          · rw [List.length_drop]
            omega
        · exact ⟨D, fs, rfl, o3.trans o4, R4, fD, o4 _ _ rD.symm eD, lf, inn⟩
      · obtain ⟨f, us, rfl, o5, R5, ff, ef, lu, iu⟩ := hM
        exact ⟨.ref f, rfl, q H' f us o5 R5 ff ef (by omega) fun x hx => okw x (iu x hx)⟩
end
end LH

namespace LH
open PySem PySem.Spec PyProof.Rows L2 NdefX LamX LU
theorem vrR_at {ps : List Addr} {i : Nat} {x : V} (h : (vr ps)[i]? = some x) : ∃ p, ps[i]? = some p ∧ x = .ref p := by
  rw [List.getElem?_map] at h
  obtain ⟨p, e, z⟩ := Option.map_eq_some_iff.mp h
  exact ⟨p, e, z.symm⟩
/-- what a pair holds -/
def keyNT (H : Hp) (v : V) : Int × Str := match v with
  | .ref t => match H t with
    | some (.tup [.int i, .str s]) => (i, s)
    | _ => (0, ⟨#[]⟩)
  | _ => (0, ⟨#[]⟩)
theorem keyNT_at {H : Hp} {t : Addr} {i : Int} {s : Str} (h : H t = some (.tup [.int i, .str s])) : keyNT H (.ref t) = (i, s) := by
  unfold keyNT
  simp only [h]
section
variable {P : Program} {w : World} {K : PySem.W.Frag} {mg : Str → Option Value} {base : Heap}
def sp_law_rising : Sp := fun vs H Q _ => ∃ (l : Addr) (ws : List Str), vs = [.ref l] ∧ H l = some (.lst (vS ws)) ∧ ws.length ≤ 1000000 ∧ (∀ x ∈ ws, x.length ≤ 1000000) ∧
  ∀ H' p, Same H H' → H p = none → H' p = some (.lst (vS (ws.mergeSort leT))) → Q (.ref p) H'
theorem ok_law_rising (T : TX K mg) : FnOk P w K mg base CX0 1 T.a_law_rising T.fd_law_rising ["words"] sp_law_rising := by
  refine T.F_law_rising.ok sc_law_rising (fun vs H Q E h => ?_) (fun cdv A outer s H vs Q E hr h => ?_)
  · obtain ⟨l, ws, rfl, _⟩ := h
    rfl
  · obtain ⟨l, ws, rfl, el, lw, lx, q⟩ := h
    refine ⟨_, (pss_one (ps_ret (pe_lc (own := [("many", 1), ("word", 2)]) (tt := tYes) (by rfl) sc_law_rising.nd (pi_listK K rfl (pe_callB (call_sortedN K rfl hr.units) (by rfl) T.m_sorted (by decide +kernel) (pa_cons (pe_lc (own := [("word", 2)]) (g := gName 2) (tt := tYes) (by rfl) sc_law_rising.nd (pi_listK K rfl (pv 0)) (blkOk_by (own := [("word", 2)]) (N := N_law_rising) (by kernel_rfl)) (fun _ _ _ _ _ => (pg_name (i := 2) sc_law_rising.nd rfl (by first | exact Or.inl rfl | exact Or.inr rfl))) (fun _ _ _ _ _ => pts_nil) (fun _ _ _ _ _ => (pe_tup (pa_cons (pe_callB call_len_str (by rfl) T.m_len (by decide +kernel) (pa_cons (pv 2) pa_nil)) (pa_cons (pv 2) pa_nil))))) pa_nil))) (blkOk_by (own := [("many", 1), ("word", 2)]) (N := N_law_rising) (by kernel_rfl)) (fun _ _ _ _ _ => (pg_tupK (n := 2) K rfl (by rfl) (pgs_cons (pg_name (i := 1) sc_law_rising.nd rfl (by first | exact Or.inl rfl | exact Or.inr rfl)) (pgs_cons (pg_name (i := 2) sc_law_rising.nd rfl (by first | exact Or.inl rfl | exact Or.inr rfl)) pgs_nil)))) (fun _ _ _ _ _ => pts_nil) (fun _ _ _ _ _ => (pv 2))))), ?_⟩
    have sl : ∀ m, m ≤ 1000000 → m ≤ sizeLine := fun m hm => Nat.le_trans hm (by decide)
    have sl' : ∀ m, m ≤ 1000000 → m < sizeLine := fun m hm => Nat.lt_of_le_of_lt hm (by decide)
    refine ⟨.ref l, rfl, l, rfl, ⟨_, .inl (.inl el)⟩, fun D nD => ?_⟩
    refine lc_it (walk_list (K := K) (a := l) (xs := vS ws)) (fun i G => Same H G ∧ ∃ ps : List Addr, G D = some (.lst (vr ps)) ∧ ps.length = i ∧ (∀ p ∈ ps, p ≠ D) ∧ ∀ (j : Nat) (p : Addr) (x : Str), ps[j]? = some p → ws[j]? = some x → G p = some (.tup [.int (x.length : Int), .str x])) ⟨same_new nD, [], upd_same, rfl, (fun _ h => nomatch h), fun j p x e => by simp at e⟩ (fun i G _ hW => .inl (.inl (hW.1 _ _ el))) (fun i y G G' hi hW hY => ?_) (fun G hW => ?_)
    · obtain ⟨sG, ps, eD, lp, nps, ep⟩ := hW
      obtain ⟨rfl, hy⟩ := hY
      obtain ⟨x, hx, rfl⟩ := str_at hy
      rw [List.length_map] at hi
      have hxl := lx x (List.mem_of_getElem? hx)
      refine ⟨rfl, lcyes ⟨.str x, rfl, x, rfl, sl _ hxl, .str x, rfl, by show 2 ≤ sizeLine; decide, fun p np => ?_⟩⟩
      have pD : p ≠ D := (ne_of_none eD np).symm
      have s2 := same_new (o := .tup [.int (x.length : Int), .str x]) np
      refine ⟨vr ps, s2 _ _ eD, sl' _ (by rw [List.length_map]; omega), fun b o eb => ?_, ps ++ [p], by rw [upd_same, vr_snoc], by rw [List.length_append, lp]; rfl, mem_snoc nps pD, fun j p' x' e1 e2 => ?_⟩
      · rw [upd_ne (ne_of_none eb nD)]
        exact s2 _ _ (sG _ _ eb)
      · by_cases hj : j < ps.length
        · rw [List.getElem?_append_left hj] at e1
          rw [upd_ne (nps p' (List.mem_of_getElem? e1))]
          exact s2 _ _ (ep j p' x' e1 e2)
        · have hj2 := (List.getElem?_eq_some_iff.mp e1).1
          rw [List.length_append] at hj2
          have hj2 : j < ps.length + 1 := hj2
          obtain rfl : j = ps.length := by omega
          rw [List.getElem?_append_right (Nat.le_refl _), Nat.sub_self] at e1
          cases e1
          rw [lp, hx] at e2
          cases e2
          rw [upd_ne pD, upd_same]
    · obtain ⟨sG, ps, eD, lp, nps, ep⟩ := hW
      rw [List.length_map] at lp
      have at_ : ∀ v ∈ vr ps, ∃ p x, v = .ref p ∧ x ∈ ws ∧ G p = some (.tup [.int (x.length : Int), .str x]) := fun v hv => by
        obtain ⟨j, hj⟩ := List.mem_iff_getElem?.mp hv
        obtain ⟨p, hp, rfl⟩ := vrR_at hj
        have hjl := (List.getElem?_eq_some_iff.mp hp).1
        have hx := List.getElem?_eq_getElem (l := ws) (i := j) (by omega)
        exact ⟨p, _, rfl, List.mem_of_getElem? hx, ep j p _ hp hx⟩
      refine ⟨D, vr ps, keyNT G, rfl, .inl (.inl eD), fun v hv => ?_, fun p np => ?_⟩
      · obtain ⟨p, x, rfl, _, e⟩ := at_ v hv
        refine ⟨p, rfl, ?_⟩
        rw [keyNT_at e]
        exact e
      · have s3 := same_new (o := .lst ((vr ps).mergeSort (leNT (keyNT G)))) np
        have em : ((vr ps).mergeSort (leNT (keyNT G))).map (fun v => (keyNT G v).2) = ws.mergeSort leT := by
          have e1 : (vr ps).map (fun v => (keyNT G v).2) = ws := by
            refine List.ext_getElem? fun j => ?_
            rw [List.map_map, List.getElem?_map]
            cases e : ps[j]? with
            | none =>
              have := List.getElem?_eq_none_iff.mp e
              exact (List.getElem?_eq_none_iff.mpr (by omega)).symm
            | some p =>
              have hjl := (List.getElem?_eq_some_iff.mp e).1
              have hx := List.getElem?_eq_getElem (l := ws) (i := j) (by omega)
              rw [hx]
              show some (keyNT G (.ref p)).2 = _
              rw [keyNT_at (ep j p _ e hx)]
          rw [← e1]
          conv => rhs; rw [e1]
          conv => rhs; rw [← e1]
          refine PySem.W.sort_maps (fun v => (keyNT G v).2) fun a ha b hb => ?_
          obtain ⟨pa, xa, rfl, _, ea⟩ := at_ a ha
          obtain ⟨pb, xb, rfl, _, eb⟩ := at_ b hb
          rw [leNT_eq, keyNT_at ea, keyNT_at eb]
          unfold leT
          refine decide_eq_decide.mpr ?_
          show ((xa.length : Int) < (xb.length : Int) ∨ ((xa.length : Int) = (xb.length : Int) ∧ _)) ↔ (xa.length < xb.length ∨ (xa.length = xb.length ∧ _))
          rw [Int.ofNat_lt, Int.ofNat_inj]
        refine ⟨p, rfl, ⟨_, .inl (.inl upd_same)⟩, fun D2 nD2 => ?_⟩
        have pD2 : p ≠ D2 := ne_of_none upd_same nD2
        have lm : ((vr ps).mergeSort (leNT (keyNT G))).length = ws.length := by rw [List.length_mergeSort, List.length_map, lp]
        have perm := List.mergeSort_perm (vr ps) (leNT (keyNT G))
        generalize hms : (vr ps).mergeSort (leNT (keyNT G)) = ms at s3 em nD2 pD2 lm perm
        refine lc_it (walk_list (K := K) (a := p) (xs := ms)) (fun i G2 => Same G G2 ∧ G2 p = some (.lst ms) ∧ G2 D2 = some (.lst (vS ((ms.take i).map fun v => (keyNT G v).2)))) ⟨s3.trans (same_new nD2), same_new nD2 _ _ upd_same, upd_same⟩ (fun i G2 _ hW => .inl (.inl hW.2.1)) (fun i y G2 G2' hi hW hY => ?_) (fun G2 hW => ?_)
        · obtain ⟨s4, e4, e5⟩ := hW
          obtain ⟨rfl, hy⟩ := hY
          obtain ⟨t, x, rfl, _, et⟩ := at_ y (perm.mem_iff.mp (List.mem_of_getElem? hy))
          refine ⟨t, [.int (x.length : Int), .str x], rfl, .inl (.inl (s4 _ _ et)), rfl, .int (x.length : Int), [.str x], rfl, .str x, [], rfl, rfl, rfl, lcyes ⟨.str x, rfl, _, e5, ?_, ?_, ?_, ?_⟩⟩
          · rw [List.length_map, List.length_map, List.length_take]
            exact sl' _ (by omega)
          · exact fun b o eb => by
              have n2 : b ≠ D2 := ne_of_none (s3 _ _ eb) nD2
              rw [upd_ne n2]
              exact s4 _ _ eb
          · rw [upd_ne pD2]
            exact e4
          · rw [upd_same, vS_snoc, take_snocQ hy, List.map_append]
            show some (HO.lst (vS (_ ++ [x]))) = some (HO.lst (vS (_ ++ [(keyNT G (.ref t)).2])))
            rw [keyNT_at et]
        · obtain ⟨s4, e4, e5⟩ := hW
          rw [List.take_of_length_le (Nat.le_refl _), em] at e5
          refine q G2 D2 (sG.trans s4) ?_ e5
          exact (sG.trans s3).free nD2
end
end LH

namespace LH
open PySem PySem.Spec PyProof.Rows L2 NdefX LamX LU
theorem shortL_len (cs : List Nat) : ∀ n, (shortL cs n).length = ((List.range n).map fun m => cs.length ^ m).sum
  | 0 => rfl
  | n + 1 => by
    show (shortL cs n ++ wordsL cs n).length = _
    rw [List.length_append, shortL_len cs n, wordsL_len, List.range_succ, List.map_append, List.sum_append]
    simp
theorem short15 {z : Str} (hz : IsLet z) {n : Nat} (h1 : 1 ≤ n) (h3 : n ≤ 3) (h4 : 4 ≤ z.length → n ≤ 2) (h5 : 5 ≤ z.length → n ≤ 1) : (shortL z.cps.toList n).length ≤ 15 := by
  have a := hz.one
  have b := hz.five
  rw [shortL_len, Array.length_toList, show z.cps.size = z.length from rfl]
  have : ∀ l : Fin 6, ∀ k : Fin 4, (4 ≤ l.val → k.val ≤ 2) → (5 ≤ l.val → k.val ≤ 1) → ((List.range k.val).map fun m => l.val ^ m).sum ≤ 15 := by decide
  exact this ⟨z.length, by omega⟩ ⟨n, by omega⟩ h4 h5
theorem few_view {z : Str} {M : Mach} {n : Nat} {ws : List Str} (k : M.Ok) (ez : M.z = z) (C : Canon z.length M.rows M.ends) (hM : ∀ cs, (∀ c ∈ cs, c ∈ z.cps.toList) → (M.has cs = true ↔ Known n ws cs)) (h4 : z.length ≤ 4) (hn : n ≤ 3) (hn4 : 4 ≤ z.length → n ≤ 2) (hr : M.rows.length ≤ 2 ^ (shortL z.cps.toList n).length + 1) : M.rows.length ≤ 730 := by
  by_cases q : z.length ≤ 3
  · exact few_states k ez C hM q hn
  · have hz4 : z.length = 4 := by omega
    have : (shortL z.cps.toList n).length ≤ 5 := by
      rw [shortL_len, Array.length_toList, show z.cps.size = z.length from rfl, hz4]
      have : ∀ k : Fin 3, ((List.range k.val).map fun m => 4 ^ m).sum ≤ 5 := by decide
      exact this ⟨n, by have := hn4 (by omega); omega⟩
    have := Nat.pow_le_pow_right (show 0 < 2 by decide) this
    omega
section
variable {X : Cx} (K : PySem.W.Frag) (hK : X.K = K)
include hK
theorem op_eqDK (hu : X.A.units + 64 < cLine) : OpR X (compareOp .Eq) (rEqD K) := by subst hK; exact op_eqD hu
theorem op_neDK (hu : X.A.units + 64 < cLine) : OpR X (compareOp .NotEq) (rNeD K) := by subst hK; exact op_neD hu
end
theorem VL_ok {M : Mach} (k : M.Ok) {n : Nat} : ∀ x ∈ VL M n, PyData.strOk x = true := fun x hx => by
  obtain ⟨y, rfl, hy, _⟩ := VL_in k hx
  exact strOk_in k.let_ hy
theorem VL_len {M : Mach} (k : M.Ok) {n : Nat} (hp : M.z.length ^ n ≤ 1000) (hn : n ≤ 10) : (VL M n).length ≤ 11000 := by
  unfold VL
  rw [List.length_map]
  have a := List.length_filter_le (toldB (RM M) (finM M) 0) (shortI M.z.length n)
  have b := shortI_len k.let_.one hp
  have c : (n + 1) * 1000 ≤ 11 * 1000 := Nat.mul_le_mul_right 1000 (by omega)
  omega
/-- the views of more words are more -/
theorem VL_sub {M N : Mach} {n : Nat} (k : M.Ok) (kN : N.Ok) (ez : N.z = M.z) (h : ∀ cs, (∀ c ∈ cs, c ∈ M.z.cps.toList) → M.has cs = true → N.has cs = true) {x : Str} (hx : x ∈ VL M n) : x ∈ VL N n := by
  obtain ⟨y, rfl, hy, hl⟩ := VL_in k hx
  obtain ⟨cs, a, b, c⟩ := (VL_txt k hy hl).mp hx
  exact (VL_txt kN (by rw [ez]; exact hy) hl).mpr ⟨cs, by rw [ez]; exact a, h cs a b, c⟩
theorem VL_or {M N E : Mach} {n : Nat} (k : M.Ok) (kN : N.Ok) (kE : E.Ok) (ez : N.z = M.z) (eE : E.z = M.z) (h : ∀ cs, (∀ c ∈ cs, c ∈ M.z.cps.toList) → E.has cs = (M.has cs || N.has cs)) (x : Str) : x ∈ VL E n ↔ x ∈ VL M n ∨ x ∈ VL N n := by
  constructor
  · intro hx
    obtain ⟨y, rfl, hy, hl⟩ := VL_in kE hx
    obtain ⟨cs, a, b, c⟩ := (VL_txt kE hy hl).mp hx
    rw [eE] at a hy
    rw [h cs a, Bool.or_eq_true] at b
    rcases b with b | b
    · exact .inl ((VL_txt k hy hl).mpr ⟨cs, a, b, c⟩)
    · exact .inr ((VL_txt kN (by rw [ez]; exact hy) hl).mpr ⟨cs, by rw [ez]; exact a, b, c⟩)
  · rintro (hx | hx)
    · exact VL_sub k kE eE (fun cs a b => by rw [h cs a, b]; rfl) hx
    · exact VL_sub kN kE (by rw [eE, ez]) (fun cs a b => by rw [ez] at a; rw [h cs a, b, Bool.or_true]) hx
theorem VL_whole {M N E : Mach} {n : Nat} (k : M.Ok) (kN : N.Ok) (kE : E.Ok) (ez : N.z = M.z) (eE : E.z = M.z) (h : ∀ cs, (∀ c ∈ cs, c ∈ M.z.cps.toList) → E.has cs = (M.has cs || N.has cs)) : (VL M n ++ (VL N n).filter fun x => decide (x ∉ VL M n)).mergeSort leT = VL E n := by
  refine rising_one ((List.perm_ext_iff_of_nodup (VL_nd kE n) ?_).mpr fun x => ?_) (VL_lt kE n)
  · refine List.nodup_append.mpr ⟨VL_nd k n, List.Nodup.sublist List.filter_sublist (VL_nd kN n), fun a ha b hb e => ?_⟩
    have := of_decide_eq_true (List.mem_filter.mp hb).2
    exact this (e ▸ ha)
  · rw [VL_or k kN kE ez eE h, List.mem_append, List.mem_filter, decide_eq_true_iff]
    constructor
    · rintro (a | a)
      · exact .inl a
      · by_cases q : x ∈ VL M n
        · exact .inl q
        · exact .inr ⟨a, q⟩
    · rintro (a | ⟨a, _⟩)
      · exact .inl a
      · exact .inr a
/-- the views of the machine of a list are of the list -/
theorem VL_list {V : Mach} {n : Nat} {ws : List Str} (k : V.Ok) (hV : ∀ cs, (∀ c ∈ cs, c ∈ V.z.cps.toList) → (V.has cs = true ↔ Known n ws cs)) {x : Str} (hx : x ∈ VL V n) : x ∈ ws := by
  obtain ⟨y, rfl, hy, hl⟩ := VL_in k hx
  obtain ⟨cs, a, b, c⟩ := (VL_txt k hy hl).mp hx
  exact (hV cs a).mp b y c hl
theorem VL_back {V : Mach} {n : Nat} {ws : List Str} (k : V.Ok) (hV : ∀ cs, (∀ c ∈ cs, c ∈ V.z.cps.toList) → (V.has cs = true ↔ Known n ws cs)) {cs : List Nat} (h : ∀ c ∈ cs, c ∈ V.z.cps.toList) : Known n (VL V n) cs ↔ V.has cs = true :=
  ⟨fun e => (hV cs h).mpr fun y hy hl => VL_list k hV (e y hy hl), fun e => known_has k h e⟩
theorem known_and {n : Nat} {a b : List Str} {cs : List Nat} : Known n (a.filter fun x => decide (x ∈ b)) cs ↔ Known n a cs ∧ Known n b cs := by
  constructor
  · intro h
    exact ⟨fun y hy hl => (List.mem_filter.mp (h y hy hl)).1, fun y hy hl => of_decide_eq_true (List.mem_filter.mp (h y hy hl)).2⟩
  · rintro ⟨h1, h2⟩ y hy hl
    exact List.mem_filter.mpr ⟨h1 y hy hl, decide_eq_true (h2 y hy hl)⟩
theorem filter_take {xs : List Str} {i : Nat} {x : Str} (h : xs[i]? = some x) (p : Str → Bool) : (xs.take (i + 1)).filter p = (xs.take i).filter p ++ if p x = true then [x] else [] := by
  rw [take_snocQ h, List.filter_append]
  congr 1
  rw [List.filter_cons]
  by_cases q : p x = true
  · rw [if_pos q, if_pos q]
    rfl
  · rw [if_neg q, if_neg q]
    rfl
section
variable {P : Program} {w : World} {K : PySem.W.Frag} {mg : Str → Option Value} {base : Heap}
def sp_law_right (tabs : List NTab) : Sp := fun vs H Q _ => ∃ (r : Addr) (z : Str) (n : Nat), vs = [.ref r, .str z, .int (n : Int)] ∧ RowAt H r ∧ IsLet z ∧ z.length ≤ 4 ∧ 1 ≤ n ∧ n ≤ 3 ∧ (4 ≤ z.length → n ≤ 2) ∧ TabsN tabs H ∧
  ∀ H', OffN r H H' → TabsN tabs H' → Q (.bl true) H'
theorem ok_law_right (T : TX K mg) {tabs : List NTab} (G_paired : FnOk P w K mg base CX0 7 T.a_paired T.fd_paired ["one", "other", "wanted"] (sp_paired tabs)) (G_view_machine : FnOk P w K mg base CX0 7 T.a_view_machine T.fd_view_machine ["letters", "views", "size"] (sp_view_machine tabs)) (G_ways_of : FnOk P w K mg base CX0 7 T.a_ways_of T.fd_ways_of ["machine"] (sp_ways_of tabs)) : FnOk P w K mg base CX0 9 T.a_law_right T.fd_law_right ["hand", "letters", "size"] (sp_law_right tabs) := by
  have G_views_of := ok_views_of T G_ways_of
  have G_both := ok_bothC T G_paired
  have G_either := ok_eitherC T G_paired
  have G_law_machine : FnOk P w K mg base CX0 2 T.a_law_machine T.fd_law_machine ["hand", "letters", "most"] sp_law_machine := ok_law_machine T
  have G_law_rising : FnOk P w K mg base CX0 1 T.a_law_rising T.fd_law_rising ["words"] sp_law_rising := ok_law_rising T
  have G_law_drawn_views : FnOk P w K mg base CX0 2 T.a_law_drawn_views T.fd_law_drawn_views ["hand", "letters", "size"] sp_law_drawn_views := ok_law_drawn_views T
  refine T.F_law_right.ok sc_law_right (fun vs H Q E h => ?_) (fun cdv A outer s H vs Q E hr h => ?_)
  · obtain ⟨r, z, n, rfl, _⟩ := h
    rfl
  · obtain ⟨r, z, n, rfl, hR, hz, z4, n1, n3, n4, tb, q⟩ := h
    refine ⟨_, (pss_cons (ps_set (i := 3) sc_law_right.nd rfl (Or.inl rfl) (pe_call G_law_machine (hr.mono (by decide)) (by rfl) T.g_law_machine T.F_law_machine.kp T.b_law_machine .nil pass0 (pa_cons (pv 0) (pa_cons (pv 1) (pa_cons pe_int pa_nil)))))
      (pss_cons (ps_set (i := 4) sc_law_right.nd rfl (Or.inl rfl) (pe_call G_law_machine (hr.mono (by decide)) (by rfl) T.g_law_machine T.F_law_machine.kp T.b_law_machine .nil pass0 (pa_cons (pv 0) (pa_cons (pv 1) (pa_cons pe_int pa_nil)))))
      (pss_cons (ps_set (i := 5) sc_law_right.nd rfl (Or.inr rfl) (pe_lst (pa_cons (pe_call G_views_of (hr.mono (by decide)) (by rfl) T.g_views_of T.F_views_of.kp T.b_views_of .nil pass0 (pa_cons (pv 3) (pa_cons (pv 2) pa_nil))) (pa_cons (pe_call G_views_of (hr.mono (by decide)) (by rfl) T.g_views_of T.F_views_of.kp T.b_views_of .nil pass0 (pa_cons (pv 4) (pa_cons (pv 2) pa_nil))) pa_nil))))
      (pss_cons (ps_set (i := 6) sc_law_right.nd rfl (Or.inl rfl) (pe_op op_cat (pe_ix (ix_listK K rfl) (pv 5) pe_int (fun _ _ => rfl)) (pe_lc (own := [("view", 12)]) (g := gName 12) (by rfl) sc_law_right.nd (pi_listK K rfl (pe_ix (ix_listK K rfl) (pv 5) pe_int (fun _ _ => rfl))) (blkOk_by (own := [("view", 12)]) (N := N_law_right) (by kernel_rfl)) (fun _ _ _ _ _ => (pg_name (i := 12) sc_law_right.nd rfl (by first | exact Or.inl rfl | exact Or.inr rfl))) (fun _ _ _ _ _ => (pts_one (pt_cmpR (op_notIn_seqK K rfl) (pv 12) (pe_ix (ix_listK K rfl) (pv 5) pe_int (fun _ _ => rfl)) (by rfl)))) (fun _ _ _ _ _ => (pv 12)))))
      (pss_cons (ps_if (pt_cmpR (op_neDK K rfl hr.units) (pe_call G_views_of (hr.mono (by decide)) (by rfl) T.g_views_of T.F_views_of.kp T.b_views_of .nil pass0 (pa_cons (pe_call G_either (hr.mono (by decide)) (by rfl) T.g_either T.F_either.kp T.b_either .nil pass0 (pa_cons (pv 3) (pa_cons (pv 4) pa_nil))) (pa_cons (pv 2) pa_nil))) (pe_call G_law_rising (hr.mono (by decide)) (by rfl) T.g_law_rising T.F_law_rising.kp T.b_law_rising .nil pass0 (pa_cons (pv 6) pa_nil)) (nomark _))
        (pss_one (ps_ret pe_bl))
        pss_nil)
      (pss_cons (ps_set (i := 7) sc_law_right.nd rfl (Or.inl rfl) (pe_call G_views_of (hr.mono (by decide)) (by rfl) T.g_views_of T.F_views_of.kp T.b_views_of .nil pass0 (pa_cons (pe_call G_both (hr.mono (by decide)) (by rfl) T.g_both T.F_both.kp T.b_both .nil pass0 (pa_cons (pv 3) (pa_cons (pv 4) pa_nil))) (pa_cons (pv 2) pa_nil))))
      (pss_cons (ps_if (pt_cmpR (op_neDK K rfl hr.units) (pe_lc (own := [("view", 12)]) (g := gName 12) (by rfl) sc_law_right.nd (pi_listK K rfl (pv 7)) (blkOk_by (own := [("view", 12)]) (N := N_law_right) (by kernel_rfl)) (fun _ _ _ _ _ => (pg_name (i := 12) sc_law_right.nd rfl (by first | exact Or.inl rfl | exact Or.inr rfl))) (fun _ _ _ _ _ => (pts_one (PW.pt (pw_or (pt_cmpR (op_notIn_seqK K rfl) (pv 12) (pe_ix (ix_listK K rfl) (pv 5) pe_int (fun _ _ => rfl)) (by rfl)) (pw_or1 (pt_cmpR (op_notIn_seqK K rfl) (pv 12) (pe_ix (ix_listK K rfl) (pv 5) pe_int (fun _ _ => rfl)) (by rfl))))))) (fun _ _ _ _ _ => (pv 12))) (pe_lst pa_nil) (nomark _))
        (pss_one (ps_ret pe_bl))
        pss_nil)
      (pss_cons (ps_set (i := 8) sc_law_right.nd rfl (Or.inr rfl) (pe_lst (pa_cons (pe_call G_law_drawn_views (hr.mono (by decide)) (by rfl) T.g_law_drawn_views T.F_law_drawn_views.kp T.b_law_drawn_views .nil pass0 (pa_cons (pv 0) (pa_cons (pv 1) (pa_cons (pv 2) pa_nil)))) (pa_cons (pe_call G_law_drawn_views (hr.mono (by decide)) (by rfl) T.g_law_drawn_views T.F_law_drawn_views.kp T.b_law_drawn_views .nil pass0 (pa_cons (pv 0) (pa_cons (pv 1) (pa_cons (pv 2) pa_nil)))) pa_nil))))
      (pss_cons (ps_setLc (i := 9) (own := [("some", 13)]) (g := gName 13) (tt := tYes) (by rfl) sc_law_right.nd rfl rfl (sw_true rfl rfl rfl (by decide +kernel)) (pi_listK K rfl (pv 8)) (blkOk_by (own := [("some", 13)]) (N := N_law_right) (by kernel_rfl)) (fun _ _ _ _ _ => (pg_name (i := 13) sc_law_right.nd rfl (by first | exact Or.inl rfl | exact Or.inr rfl))) (fun _ _ _ _ _ => pts_nil) (fun _ _ _ _ _ => (pe_call G_view_machine (hr.mono (by decide)) (by rfl) T.g_view_machine T.F_view_machine.kp T.b_view_machine .nil pass0 (pa_cons (pv 1) (pa_cons (pe_callTy (call_listK K rfl) (by rfl) T.m_list (by decide +kernel) (pa_cons (pv 13) pa_nil)) (pa_cons (pv 2) pa_nil))))))
      (pss_cons (ps_setLc (i := 10) (own := [("view", 12)]) (g := gName 12) (by rfl) sc_law_right.nd rfl rfl (sw_true rfl rfl rfl (by decide +kernel)) (pi_listK K rfl (pe_ix (ix_listK K rfl) (pv 8) pe_int (fun _ _ => rfl))) (blkOk_by (own := [("view", 12)]) (N := N_law_right) (by kernel_rfl)) (fun _ _ _ _ _ => (pg_name (i := 12) sc_law_right.nd rfl (by first | exact Or.inl rfl | exact Or.inr rfl))) (fun _ _ _ _ _ => (pts_one (pt_cmpR (op_in_seqK K rfl) (pv 12) (pe_ix (ix_listK K rfl) (pv 8) pe_int (fun _ _ => rfl)) (by rfl)))) (fun _ _ _ _ _ => (pv 12)))
      (pss_cons (ps_if (pt_cmpR (op_neDK K rfl hr.units) (pe_call G_view_machine (hr.mono (by decide)) (by rfl) T.g_view_machine T.F_view_machine.kp T.b_view_machine .nil pass0 (pa_cons (pv 1) (pa_cons (pv 10) (pa_cons (pv 2) pa_nil)))) (pe_call G_both (hr.mono (by decide)) (by rfl) T.g_both T.F_both.kp T.b_both .nil pass0 (pa_cons (pe_ix (ix_listK K rfl) (pv 9) pe_int (fun _ _ => rfl)) (pa_cons (pe_ix (ix_listK K rfl) (pv 9) pe_int (fun _ _ => rfl)) pa_nil))) (nomark _))
        (pss_one (ps_ret pe_bl))
        pss_nil)
      (pss_cons (ps_set (i := 11) sc_law_right.nd rfl (Or.inl rfl) (pe_call G_views_of (hr.mono (by decide)) (by rfl) T.g_views_of T.F_views_of.kp T.b_views_of .nil pass0 (pa_cons (pe_ix (ix_listK K rfl) (pv 9) pe_int (fun _ _ => rfl)) (pa_cons (pv 2) pa_nil))))
      (pss_cons (ps_if (pt_cmpR (op_neDK K rfl hr.units) (pe_lc (own := [("view", 12)]) (g := gName 12) (by rfl) sc_law_right.nd (pi_listK K rfl (pv 11)) (blkOk_by (own := [("view", 12)]) (N := N_law_right) (by kernel_rfl)) (fun _ _ _ _ _ => (pg_name (i := 12) sc_law_right.nd rfl (by first | exact Or.inl rfl | exact Or.inr rfl))) (fun _ _ _ _ _ => (pts_one (pt_cmpR (op_notIn_seqK K rfl) (pv 12) (pe_ix (ix_listK K rfl) (pv 8) pe_int (fun _ _ => rfl)) (by rfl)))) (fun _ _ _ _ _ => (pv 12))) (pe_lst pa_nil) (nomark _))
        (pss_one (ps_ret pe_bl))
        pss_nil)
      (pss_one (ps_ret (pe_cmpR (op_eqDK K rfl hr.units) (pe_call G_view_machine (hr.mono (by decide)) (by rfl) T.g_view_machine T.F_view_machine.kp T.b_view_machine .nil pass0 (pa_cons (pv 1) (pa_cons (pv 11) (pa_cons (pv 2) pa_nil)))) (pe_ix (ix_listK K rfl) (pv 9) pe_int (fun _ _ => rfl)) (nomark _))))))))))))))))), ?_⟩
    have sl : ∀ m, m ≤ 1000000 → m ≤ sizeLine := fun m hm => Nat.le_trans hm (by decide)
    have sl' : ∀ m, m ≤ 1000000 → m < sizeLine := fun m hm => Nat.lt_of_le_of_lt hm (by decide)
    have h15 := short15 hz n1 n3 n4 (fun h => by omega)
    have hpw := pow1000 hz n3
    -- two machines
    refine ⟨.ref r, rfl, .str z, rfl, r, z, 5, rfl, hR, hz, by decide, by decide, fun H1 m1 M1 o1 R1 mm1 k1 z1 l1 => ?_⟩
    refine ⟨.ref r, rfl, .str z, rfl, r, z, 5, rfl, R1, hz, by decide, by decide, fun H2 m2 M2 o2 R2 mm2 k2 z2 l2 => ?_⟩
    have mm1b := mm1.mono (Tups.off R1 o2)
    have tb2 := tabs_row (tabs_row tb hR o1) R1 o2
    have o02 : OffN r H H2 := (OffN.off o1).trans (OffN.off o2)
    have hp1 : M1.z.length ^ n ≤ 1000 := by rw [z1]; exact hpw
    have hp2 : M2.z.length ^ n ≤ 1000 := by rw [z2]; exact hpw
    have z21 : M2.z = M1.z := z2.trans z1.symm
    -- views
    refine ⟨.ref m1, rfl, .int (n : Int), rfl, m1, M1, n, rfl, mm1b, k1, by omega, hp1, by omega, tb2, fun H3 v1 x3 tb3 _ ev1 => ?_⟩
    have ev1 : H3 v1 = some (.lst (vS (VL M1 n))) := ev1
    have mm2c := mm2.mono (tupsN x3)
    refine ⟨.ref m2, rfl, .int (n : Int), rfl, m2, M2, n, rfl, mm2c, k2, by omega, hp2, by omega, tb3, fun H4 v2 x4 tb4 _ ev2 => ?_⟩
    have ev2 : H4 v2 = some (.lst (vS (VL M2 n))) := ev2
    refine ⟨by show 2 ≤ sizeLine; decide, fun vp nvp => ?_⟩
    have s4 := same_new (o := .lst [.ref v1, .ref v2]) nvp
    have evp : (upd H4 vp (.lst [.ref v1, .ref v2])) vp = some (.lst [.ref v1, .ref v2]) := upd_same
    have e1 := s4 _ _ (lstN x4 ev1)
    have e2 := s4 _ _ ev2
    have x24 : ExtN H2 (upd H4 vp (.lst [.ref v1, .ref v2])) := (x3.trans x4).trans (ExtN.of s4)
    have tb4' := tb4.ext s4
    generalize upd H4 vp (.lst [.ref v1, .ref v2]) = H5 at evp e1 e2 x24 tb4'
    have lv1 := VL_len k1 hp1 (show n ≤ 10 by omega)
    have lv2 := VL_len k2 hp2 (show n ≤ 10 by omega)
    -- each
    refine ⟨.ref vp, rfl, vp, _, 0, .ref v1, rfl, rfl, .inl (.inl evp), rfl, ?_⟩
    refine ⟨.ref vp, rfl, vp, _, 1, .ref v2, rfl, rfl, .inl (.inl evp), rfl, v2, rfl, ⟨_, .inl (.inl e2)⟩, fun D nD => ?_⟩
    refine lc_it (walk_list (K := K) (a := v2) (xs := vS (VL M2 n))) (fun i G => G = upd H5 D (.lst (vS (((VL M2 n).take i).filter fun x => decide (x ∉ VL M1 n))))) (by rw [List.take_zero]; rfl) (fun i G _ hW => by rw [hW]; exact .inl (.inl (same_new nD _ _ e2))) (fun i y G G' hi hW hY => ?_) (fun G hW => ?_)
    · subst hW
      obtain ⟨rfl, hy⟩ := hY
      obtain ⟨u, hu, rfl⟩ := str_at hy
      rw [List.length_map] at hi
      have sD := same_new (o := .lst (vS (((VL M2 n).take i).filter fun x => decide (x ∉ VL M1 n)))) nD
      refine ⟨rfl, .str u, rfl, .ref vp, rfl, vp, _, 0, .ref v1, rfl, rfl, .inl (.inl (sD _ _ evp)), rfl, v1, _, rfl, .inl (.inl (.inl (sD _ _ e1))), rfl, flat_vS _, _, rfl, ?_⟩
      have ev : (if true = true then !inV (.str u) (vS (VL M1 n)) else inV (.str u) (vS (VL M1 n))) = decide (u ∉ VL M1 n) := by
        rw [if_pos rfl, inV_vS]
        by_cases h : u ∈ VL M1 n <;> simp [h]
      rw [ev]
      refine ite2 (fun g => ?_) (fun g => ?_)
      · refine ⟨.str u, rfl, _, upd_same, sl' _ ?_, ?_⟩
        · rw [List.length_map]
          have := List.length_filter_le (fun x => decide (x ∉ VL M1 n)) ((VL M2 n).take i)
          rw [List.length_take] at this
          omega
        · rw [upd_upd, vS_snoc, filter_take hu, if_pos g]
      · show _ = upd _ _ _
        rw [filter_take hu, if_neg g, List.append_nil]
    subst hW
    rw [List.length_map, List.take_of_length_le (Nat.le_refl _)]
    have sD := same_new (o := .lst (vS ((VL M2 n).filter fun x => decide (x ∉ VL M1 n)))) nD
    have lf := List.length_filter_le (fun x => decide (x ∉ VL M1 n)) (VL M2 n)
    refine ⟨v1, D, _, _, rfl, rfl, sD _ _ e1, upd_same, by rw [List.length_map, List.length_map]; exact sl _ (by omega), fun ep nep => ?_⟩
    rw [vS_app]
    have s5 := sD.trans (same_new (o := .lst (vS (VL M1 n ++ (VL M2 n).filter fun x => decide (x ∉ VL M1 n)))) nep)
    have eep : (upd (upd H5 D (.lst (vS ((VL M2 n).filter fun x => decide (x ∉ VL M1 n))))) ep (.lst (vS (VL M1 n ++ (VL M2 n).filter fun x => decide (x ∉ VL M1 n))))) ep = some (.lst (vS (VL M1 n ++ (VL M2 n).filter fun x => decide (x ∉ VL M1 n)))) := upd_same
    have tb5 := tb4'.ext s5
    have x25 := x24.trans (ExtN.of s5)
    have f1 := s5 _ _ e1
    have f2 := s5 _ _ e2
    have fvp := s5 _ _ evp
    generalize upd (upd H5 D (.lst (vS ((VL M2 n).filter fun x => decide (x ∉ VL M1 n))))) ep (.lst (vS (VL M1 n ++ (VL M2 n).filter fun x => decide (x ∉ VL M1 n)))) = H6 at eep tb5 x25 f1 f2 fvp
    have mm1f := mm1b.mono (tupsN x25)
    have mm2f := mm2.mono (tupsN x25)
    have pr12 : M1.rows.length * M2.rows.length ≤ 25 := Nat.mul_le_mul l1 l2
    -- either
    refine ⟨.ref m1, rfl, .ref m2, rfl, m1, m2, M1, M2, rfl, mm1f, k1, mm2f, k2, z21, by omega, tb5, fun H7 ea Em x7 tb7 mE zE kE lE cE hasE => ?_⟩
    refine ⟨.int (n : Int), rfl, ea, Em, n, rfl, mE, kE, by omega, by rw [zE]; exact hp1, by omega, tb7, fun H8 wv x8 tb8 _ ewv => ?_⟩
    have ewv : H8 wv = some (.lst (vS (VL Em n))) := ewv
    have eep8 := lstN (x7.trans x8) eep
    have leach : (VL M1 n ++ (VL M2 n).filter fun x => decide (x ∉ VL M1 n)).length ≤ 22000 := by rw [List.length_append]; omega
    refine ⟨.ref ep, rfl, ep, _, rfl, eep8, by omega, fun x hx => ?_, fun H9 rp s9 nrp erp => ?_⟩
    · have : x.length ≤ n := by
        rcases List.mem_append.mp hx with h | h
        · obtain ⟨y, rfl, _, hl⟩ := VL_in k1 h
          show y.toArray.size ≤ n
          rw [List.size_toArray]
          exact hl
        · obtain ⟨y, rfl, _, hl⟩ := VL_in k2 (List.mem_filter.mp h).1
          show y.toArray.size ≤ n
          rw [List.size_toArray]
          exact hl
      omega
    rw [VL_whole k1 k2 kE z21 zE hasE] at erp
    have shE := shaped_strs (VL Em n) (VL_ok kE)
    refine ⟨.list ((VL Em n).map PyData.str), .list ((VL Em n).map PyData.str), .lst (.inl (.inl (s9 _ _ ewv))) (dpAll_str _), .lst (.inl (.inl erp)) (dpAll_str _), shE, shE, false, by rw [eqv_strs]; rfl, iteF ?_⟩
    have x69 : ExtN H6 H9 := (x7.trans x8).trans (ExtN.of s9)
    have tb9 := tb8.ext s9
    -- shared
    refine ⟨.ref m1, rfl, .ref m2, rfl, m1, m2, M1, M2, rfl, mm1f.mono (tupsN x69), k1, mm2f.mono (tupsN x69), k2, z21, by omega, tb9, fun Ha ba Bm xa tba mB zB kB lB cB hasB => ?_⟩
    refine ⟨.int (n : Int), rfl, ba, Bm, n, rfl, mB, kB, by omega, by rw [zB]; exact hp1, by omega, tba, fun Hb sv xb tbb _ esv => ?_⟩
    have esv : Hb sv = some (.lst (vS (VL Bm n))) := esv
    have x6b : ExtN H6 Hb := (x69.trans xa).trans xb
    have g1 := lstN x6b f1
    have g2 := lstN x6b f2
    have gvp := lstN x6b fvp
    have inB : ∀ x ∈ VL Bm n, x ∈ VL M1 n ∧ x ∈ VL M2 n := fun x hx => ⟨VL_sub kB k1 zB.symm (fun cs a b => by rw [zB] at a; rw [hasB cs a, Bool.and_eq_true] at b; exact b.1) hx, VL_sub kB k2 (z21.trans zB.symm) (fun cs a b => by rw [zB] at a; rw [hasB cs a, Bool.and_eq_true] at b; exact b.2) hx⟩
    refine ⟨.ref sv, rfl, sv, rfl, ⟨_, .inl (.inl esv)⟩, fun Db nDb => ?_⟩
    have sDb := same_new (o := .lst []) nDb
    refine lc_it (walk_list (K := K) (a := sv) (xs := vS (VL Bm n))) (fun i G => G = upd Hb Db (.lst [])) rfl (fun i G _ hW => by rw [hW]; exact .inl (.inl (sDb _ _ esv))) (fun i y G G' hi hW hY => ?_) (fun G hW => ?_)
    · subst hW
      obtain ⟨rfl, hy⟩ := hY
      obtain ⟨u, hu, rfl⟩ := str_at hy
      obtain ⟨i1, i2⟩ := inB u (List.mem_of_getElem? hu)
      have no : ∀ {ws : List Str}, u ∈ ws → (if true = true then !inV (.str u) (vS ws) else inV (.str u) (vS ws)) = false := fun {ws} h => by
        rw [if_pos rfl, inV_vS, decide_eq_true h]
        rfl
      refine ⟨rfl, .str u, rfl, .ref vp, rfl, vp, _, 0, .ref v1, rfl, rfl, .inl (.inl (sDb _ _ gvp)), rfl, v1, _, rfl, .inl (.inl (.inl (sDb _ _ g1))), rfl, flat_vS _, _, rfl, ?_⟩
      rw [no i1]
      refine iteF ⟨.str u, rfl, .ref vp, rfl, vp, _, 1, .ref v2, rfl, rfl, .inl (.inl (sDb _ _ gvp)), rfl, v2, _, rfl, .inl (.inl (.inl (sDb _ _ g2))), rfl, flat_vS _, _, rfl, ?_⟩
      rw [no i2]
      exact iteF rfl
    subst hW
    refine ⟨by show 0 ≤ sizeLine; decide, fun eb neb => ?_⟩
    have sb := same_new (o := .lst []) neb
    refine ⟨.list [], .list [], .lst (.inl (.inl (sb _ _ upd_same))) .nil, .lst (.inl (.inl upd_same)) .nil, rfl, rfl, false, rfl, iteF ?_⟩
    have xc : ExtN H2 (upd (upd Hb Db (.lst [])) eb (.lst [])) := (x25.trans x6b).trans (ExtN.of (sDb.trans sb))
    have tbc := (tbb.ext sDb).ext sb
    generalize upd (upd Hb Db (.lst [])) eb (.lst []) = Hc at xc tbc
    have Rc := R2.extN xc
    -- two lists
    refine ⟨.ref r, rfl, .str z, rfl, .int (n : Int), rfl, r, z, n, rfl, Rc, hz, by omega, hpw, fun Hd d1 ws1 od Rd _ ed1 ld1 ok1 => ?_⟩
    refine ⟨.ref r, rfl, .str z, rfl, .int (n : Int), rfl, r, z, n, rfl, Rd, hz, by omega, hpw, fun He d2 ws2 oe Re _ ed2 ld2 ok2 => ?_⟩
    have rd1 : r ≠ d1 := row_neS Rd ed1
    have ed1e := oe _ _ rd1.symm ed1
    refine ⟨by show 2 ≤ sizeLine; decide, fun lp nlp => ?_⟩
    have sf := same_new (o := .lst [.ref d1, .ref d2]) nlp
    have elp : (upd He lp (.lst [.ref d1, .ref d2])) lp = some (.lst [.ref d1, .ref d2]) := upd_same
    have h1 := sf _ _ ed1e
    have h2 := sf _ _ ed2
    have tbf := ((tabs_row (tabs_row tbc Rc od) Rd oe)).ext sf
    have o0f : OffN r H (upd He lp (.lst [.ref d1, .ref d2])) := (((o02.trans (OffN.ext xc)).trans (OffN.off od)).trans (OffN.off oe)).trans (OffN.same sf)
    generalize upd He lp (.lst [.ref d1, .ref d2]) = Hf at elp h1 h2 tbf o0f
    have lw1 : ws1.length ≤ 4000 := Nat.le_trans ld1 (Nat.mul_le_mul_left 1000 (show n + 1 ≤ 4 by omega))
    have lw2 : ws2.length ≤ 4000 := Nat.le_trans ld2 (Nat.mul_le_mul_left 1000 (show n + 1 ≤ 4 by omega))
    -- their machines
    refine ⟨.ref lp, rfl, lp, rfl, ⟨_, .inl (.inl elp)⟩, fun Dm nDm => ?_⟩
    refine lc_it (walk_list (K := K) (a := lp) (xs := [.ref d1, .ref d2])) (fun i G => ExtN Hf G ∧ TabsN tabs G ∧ ∃ (ps : List Addr) (Vs : List Mach), G Dm = some (.lst (vr ps)) ∧ ps.length = i ∧ Vs.length = i ∧ ∀ (j : Nat) (p : Addr) (V : Mach) (ws : List Str), ps[j]? = some p → Vs[j]? = some V → [ws1, ws2][j]? = some ws → MachAt G p V ∧ V.Ok ∧ V.z = z ∧ V.rows.length ≤ 730 ∧ Canon z.length V.rows V.ends ∧ ∀ cs, (∀ c ∈ cs, c ∈ z.cps.toList) → (V.has cs = true ↔ Known n ws cs)) ⟨ExtN.of (same_new nDm), tbf.ext (same_new nDm), [], [], upd_same, rfl, rfl, fun j p V ws e => by simp at e⟩ (fun i G _ hW => .inl (.inl (lstN hW.1 elp))) (fun i y G G' hi hW hY => ?_) (fun G hW => ?_)
    · obtain ⟨xG, tbG, ps, Vs, eDm, lps, lVs, all⟩ := hW
      obtain ⟨rfl, hy⟩ := hY
      obtain ⟨dx, wx, rfl, hwx, edx, lwx⟩ : ∃ dx wx, y = .ref dx ∧ [ws1, ws2][i]? = some wx ∧ G' dx = some (.lst (vS wx)) ∧ wx.length ≤ 4000 := by
        match i, hy with
        | 0, hy => cases hy; exact ⟨d1, ws1, rfl, rfl, lstN xG h1, lw1⟩
        | 1, hy => cases hy; exact ⟨d2, ws2, rfl, rfl, lstN xG h2, lw2⟩
        | i + 2, hy => simp at hy
      refine ⟨rfl, lcyes ⟨.str z, rfl, .ref dx, rfl, dx, _, rfl, .inl (.inl (.inl edx)), fun cp ncp => ?_⟩⟩
      have s1 := same_new (o := .lst (vS wx)) ncp
      refine ⟨.int (n : Int), rfl, z, cp, wx, n, rfl, hz, n1, by omega, h15, upd_same, by omega, tbG.ext s1, fun G2 p V x2 tb2 mV kV zV lV cV hasV => ?_⟩
      have xx : ExtN G' G2 := (ExtN.of s1).trans x2
      have hDm := lstN xx eDm
      have fDm := nDm
      refine ⟨vr ps, hDm, sl' _ (by rw [List.length_map]; have : i < 2 := hi; omega), fun b o eb nt => ?_, fun q hq => ?_, ps ++ [p], Vs ++ [V], by rw [upd_same, vr_snoc], by rw [List.length_append, lps]; rfl, by rw [List.length_append, lVs]; rfl, fun j p' V' ws e1 e2 e3 => ?_⟩
      · rw [upd_ne (ne_of_none eb nDm)]
        exact (xG.trans xx) b o eb nt
      · exact tabs_off tb2 hDm (fun b o n e => by rw [upd_ne n]; exact e) q hq
      · have tup := Tups.lst (o := .lst (vr ps ++ [.ref p])) hDm
        by_cases hj : j < ps.length
        · rw [List.getElem?_append_left hj] at e1
          rw [List.getElem?_append_left (by omega)] at e2
          obtain ⟨a1, a2⟩ := all j p' V' ws e1 e2 e3
          exact ⟨(a1.mono (tupsN xx)).mono tup, a2⟩
        · have hj2 := (List.getElem?_eq_some_iff.mp e1).1
          rw [List.length_append] at hj2
          have hj2 : j < ps.length + 1 := hj2
          obtain rfl : j = ps.length := by omega
          rw [List.getElem?_append_right (Nat.le_refl _), Nat.sub_self] at e1
          cases e1
          rw [List.getElem?_append_right (by omega), lps, lVs, Nat.sub_self] at e2
          cases e2
          rw [lps, hwx] at e3
          cases e3
          exact ⟨mV.mono tup, kV, zV, few_view kV zV cV hasV z4 n3 n4 lV, cV, hasV⟩
    obtain ⟨xG, tbG, ps, Vs, eDm, lps, lVs, all⟩ := hW
    obtain ⟨p1, p2, rfl⟩ : ∃ p1 p2, ps = [p1, p2] := by
      match ps, lps with
      | [a, b], _ => exact ⟨a, b, rfl⟩
    obtain ⟨V1, V2, rfl⟩ : ∃ V1 V2, Vs = [V1, V2] := by
      match Vs, lVs with
      | [a, b], _ => exact ⟨a, b, rfl⟩
    obtain ⟨mV1, kV1, zV1, lV1, cV1, hasV1⟩ := all 0 p1 V1 ws1 rfl rfl rfl
    obtain ⟨mV2, kV2, zV2, lV2, cV2, hasV2⟩ := all 1 p2 V2 ws2 rfl rfl rfl
    have lpG := lstN xG elp
    have h1G := lstN xG h1
    have h2G := lstN xG h2
    have oG := o0f.trans (OffN.ext xG)
    clear all xG
    -- common
    refine ⟨.ref lp, rfl, lp, _, 0, .ref d1, rfl, rfl, .inl (.inl lpG), rfl, d1, rfl, ⟨_, .inl (.inl h1G)⟩, fun Dc nDc => ?_⟩
    refine lc_it (walk_list (K := K) (a := d1) (xs := vS ws1)) (fun i G2 => G2 = upd G Dc (.lst (vS ((ws1.take i).filter fun x => decide (x ∈ ws2))))) (by rw [List.take_zero]; rfl) (fun i G2 _ hW => by rw [hW]; exact .inl (.inl (same_new nDc _ _ h1G))) (fun i y G2 G2' hi hW hY => ?_) (fun G2 hW => ?_)
    · subst hW
      obtain ⟨rfl, hy⟩ := hY
      obtain ⟨u, hu, rfl⟩ := str_at hy
      rw [List.length_map] at hi
      have sD := same_new (o := .lst (vS ((ws1.take i).filter fun x => decide (x ∈ ws2)))) nDc
      refine ⟨rfl, .str u, rfl, .ref lp, rfl, lp, _, 1, .ref d2, rfl, rfl, .inl (.inl (sD _ _ lpG)), rfl, d2, _, rfl, .inl (.inl (.inl (sD _ _ h2G))), rfl, flat_vS _, _, rfl, ?_⟩
      have ev : (if false = true then !inV (.str u) (vS ws2) else inV (.str u) (vS ws2)) = decide (u ∈ ws2) := by
        rw [if_neg (by decide), inV_vS]
      rw [ev]
      refine ite2 (fun g => ?_) (fun g => ?_)
      · refine ⟨.str u, rfl, _, upd_same, sl' _ ?_, ?_⟩
        · rw [List.length_map]
          have := List.length_filter_le (fun x => decide (x ∈ ws2)) (ws1.take i)
          rw [List.length_take] at this
          omega
        · rw [upd_upd, vS_snoc, filter_take hu, if_pos g]
      · show _ = upd _ _ _
        rw [filter_take hu, if_neg g, List.append_nil]
    subst hW
    rw [List.length_map, List.take_of_length_le (Nat.le_refl _)]
    have sc := same_new (o := .lst (vS (ws1.filter fun x => decide (x ∈ ws2)))) nDc
    have lc := List.length_filter_le (fun x => decide (x ∈ ws2)) ws1
    -- the machine of what is common
    refine ⟨.str z, rfl, .ref Dc, rfl, .int (n : Int), rfl, z, Dc, _, n, rfl, hz, n1, by omega, h15, upd_same, by omega, tbG.ext sc, fun I1 cm Cm x1 tc1 mC kC zC lC cC hasC => ?_⟩
    have xG1 : ExtN G I1 := (ExtN.of sc).trans x1
    have mV1a := mV1.mono (tupsN xG1)
    have mV2a := mV2.mono (tupsN xG1)
    have eDm1 := lstN xG1 eDm
    have prV : V1.rows.length * V2.rows.length ≤ 532900 := Nat.mul_le_mul lV1 lV2
    refine ⟨.ref Dm, rfl, Dm, _, 0, .ref p1, rfl, rfl, .inl (.inl eDm1), rfl, .ref Dm, rfl, Dm, _, 1, .ref p2, rfl, rfl, .inl (.inl eDm1), rfl, p1, p2, V1, V2, rfl, mV1a, kV1, mV2a, kV2, zV2.trans zV1.symm, by omega, tc1, fun I2 bm B2 x2 tc2 mB2 zB2 kB2 lB2 cB2 hasB2 => ?_⟩
    have eqB : Cm = B2 := canon_mach (z := z) kC zC (zB2.trans zV1) cC (by rw [zV1] at cB2; exact cB2) fun cs hcs => by
      rw [Bool.eq_iff_iff, hasC cs hcs, known_and, hasB2 cs (by rw [zV1]; exact hcs), Bool.and_eq_true, hasV1 cs hcs, hasV2 cs hcs]
    subst eqB
    refine ⟨dM Cm, dM Cm, dp_mach (mC.mono (tupsN x2)), dp_mach mB2, shaped_mach kC, shaped_mach kC, false, by rw [ne_mach kC], iteF ?_⟩
    have xG2 := xG1.trans x2
    have mV1b := mV1a.mono (tupsN x2)
    have eDm2 := lstN x2 eDm1
    -- told
    refine ⟨.ref Dm, rfl, Dm, _, 0, .ref p1, rfl, rfl, .inl (.inl eDm2), rfl, .int (n : Int), rfl, p1, V1, n, rfl, mV1b, kV1, by omega, by rw [zV1]; exact hpw, by omega, tc2, fun I3 tv x3 tc3 _ etv => ?_⟩
    have etv : I3 tv = some (.lst (vS (VL V1 n))) := etv
    have hasV1' : ∀ cs, (∀ c ∈ cs, c ∈ V1.z.cps.toList) → (V1.has cs = true ↔ Known n ws1 cs) := by rw [zV1]; exact hasV1
    have xG3 := xG2.trans x3
    have lp3 := lstN xG3 lpG
    have h13 := lstN xG3 h1G
    refine ⟨.ref tv, rfl, tv, rfl, ⟨_, .inl (.inl etv)⟩, fun Dt nDt => ?_⟩
    have sDt := same_new (o := .lst []) nDt
    refine lc_it (walk_list (K := K) (a := tv) (xs := vS (VL V1 n))) (fun i G => G = upd I3 Dt (.lst [])) rfl (fun i G _ hW => by rw [hW]; exact .inl (.inl (sDt _ _ etv))) (fun i y G2 G2' hi hW hY => ?_) (fun G2 hW => ?_)
    · subst hW
      obtain ⟨rfl, hy⟩ := hY
      obtain ⟨u, hu, rfl⟩ := str_at hy
      have i1 := VL_list kV1 hasV1' (List.mem_of_getElem? hu)
      refine ⟨rfl, .str u, rfl, .ref lp, rfl, lp, _, 0, .ref d1, rfl, rfl, .inl (.inl (sDt _ _ lp3)), rfl, d1, _, rfl, .inl (.inl (.inl (sDt _ _ h13))), rfl, flat_vS _, _, rfl, ?_⟩
      have ev : (if true = true then !inV (.str u) (vS ws1) else inV (.str u) (vS ws1)) = false := by
        rw [if_pos rfl, inV_vS, decide_eq_true i1]
        rfl
      rw [ev]
      exact iteF rfl
    subst hW
    refine ⟨by show 0 ≤ sizeLine; decide, fun et net => ?_⟩
    have st := same_new (o := .lst []) net
    refine ⟨.list [], .list [], .lst (.inl (.inl (st _ _ upd_same))) .nil, .lst (.inl (.inl upd_same)) .nil, rfl, rfl, false, rfl, iteF ?_⟩
    have x34 : ExtN I3 (upd (upd I3 Dt (.lst [])) et (.lst [])) := ExtN.of (sDt.trans st)
    have tc4 := (tc3.ext sDt).ext st
    generalize upd (upd I3 Dt (.lst [])) et (.lst []) = I4 at x34 tc4
    have lV := VL_len kV1 (n := n) (by rw [zV1]; exact hpw) (by omega)
    -- its machine is that of these
    refine ⟨.str z, rfl, .ref tv, rfl, .int (n : Int), rfl, z, tv, _, n, rfl, hz, n1, by omega, h15, lstN x34 etv, by omega, tc4, fun I5 lm Lm x5 tc5 mL kL zL lL cL hasL => ?_⟩
    have eqL : Lm = V1 := canon_mach (z := z) kL zL zV1 cL cV1 fun cs hcs => by
      rw [Bool.eq_iff_iff, hasL cs hcs, VL_back kV1 hasV1' (by rw [zV1]; exact hcs)]
    subst eqL
    have x25' := (x3.trans x34).trans x5
    refine ⟨.ref Dm, rfl, Dm, _, 0, .ref p1, rfl, rfl, .inl (.inl (lstN x25' eDm2)), rfl, dM Lm, dM Lm, dp_mach mL, dp_mach (mV1b.mono (tupsN x25')), shaped_mach kL, shaped_mach kL, ?_⟩
    rw [SeqAt.eqv_refl _ (can_mach kL)]
    exact q I5 (oG.trans (OffN.ext ((xG2.trans x25')))) tc5
end
end LH

namespace LH
open PySem PySem.Spec PyProof.Rows L2 NdefX LamX LU
section
variable {P : Program} {w : World} {K : PySem.W.Frag} {mg : Str → Option Value} {base : Heap}
def sp_law (K : PySem.W.Frag) (tabs : List NTab) : Sp := fun vs H Q _ => ∃ (a : Addr) (ns : List Int), vs = [.ref a] ∧ SqL K H a (ns.map V.int) ∧ ns.length ≤ 63 ∧ TabsN tabs H ∧ ∀ H', Q (.bl true) H'
theorem ok_law {f : Addr} {fd : FuncData} {tabs : List NTab} (F : Fun K "law" "law" s_law f fd) (T : TX K mg) (G_paired : FnOk P w K mg base CX0 7 T.a_paired T.fd_paired ["one", "other", "wanted"] (sp_paired tabs)) (G_ways_of : FnOk P w K mg base CX0 7 T.a_ways_of T.fd_ways_of ["machine"] (sp_ways_of tabs)) (G_view_machine : FnOk P w K mg base CX0 7 T.a_view_machine T.fd_view_machine ["letters", "views", "size"] (sp_view_machine tabs)) : FnOk P w K mg base CX0 10 f fd ["script"] (sp_law K tabs) := by
  have G_law_right := ok_law_right T G_paired G_view_machine G_ways_of
  have G_law_cells : FnOk P w K mg base CX0 1 T.a_law_cells T.fd_law_cells ["script"] (sp_law_cells K) := ok_law_cells T
  have G_law_hand : FnOk P w K mg base CX0 1 T.a_law_hand T.fd_law_hand ["script", "cell", "k"] (sp_law_hand K) := ok_law_hand T
  have G_law_letters : FnOk P w K mg base CX0 2 T.a_law_letters T.fd_law_letters ["hand", "most"] sp_law_letters := ok_law_letters T
  have G_law_size : FnOk P w K mg base CX0 2 T.a_law_size T.fd_law_size ["hand", "letters"] sp_law_size := ok_law_size T
  refine F.ok sc_law (fun vs H Q E h => ?_) (fun cdv A outer s H vs Q E hr h => ?_)
  · obtain ⟨a, ns, rfl, _⟩ := h
    rfl
  · obtain ⟨a, ns, rfl, hS, hlen, tb, q⟩ := h
    refine ⟨_, (pss_cons (ps_for PassesOwn.never rfl (pi_listK K rfl (pe_call G_law_cells (hr.mono (by decide)) (by rfl) T.g_law_cells T.F_law_cells.kp T.b_law_cells .nil pass0 (pa_cons (pe_slice (sl_listK K rfl) (pv 0) po_none (po_some pe_int)) pa_nil))) (pg_tupK (n := 2) K rfl (by rfl) (pgs_cons (pg_name (i := 1) sc_law.nd rfl (Or.inl rfl)) (pgs_cons (pg_name (i := 2) sc_law.nd rfl (Or.inl rfl)) pgs_nil)))
        (pss_cons (ps_set (i := 3) sc_law.nd rfl (Or.inl rfl) (pe_call G_law_hand (hr.mono (by decide)) (by rfl) T.g_law_hand T.F_law_hand.kp T.b_law_hand .nil pass0 (pa_cons (pv 0) (pa_cons (pv 2) (pa_cons (pv 1) pa_nil)))))
          (pss_cons (ps_set (i := 4) sc_law.nd rfl (Or.inl rfl) (pe_call G_law_letters (hr.mono (by decide)) (by rfl) T.g_law_letters T.F_law_letters.kp T.b_law_letters .nil pass0 (pa_cons (pv 3) (pa_cons pe_int pa_nil))))
          (pss_one (ps_if (pt_not (pt_val (pe_call G_law_right (hr.mono (by decide)) (by rfl) T.g_law_right T.F_law_right.kp T.b_law_right .nil pass0 (pa_cons (pv 3) (pa_cons (pv 4) (pa_cons (pe_call G_law_size (hr.mono (by decide)) (by rfl) T.g_law_size T.F_law_size.kp T.b_law_size .nil pass0 (pa_cons (pv 3) (pa_cons (pv 4) pa_nil))) pa_nil))))))
            (pss_one (ps_ret pe_bl))
            pss_nil)))))
      (pss_one (ps_ret pe_bl))), ?_⟩
    obtain ⟨ms, em, lm⟩ := cutV_ints ns none (some 20)
    refine ⟨.ref a, rfl, 20, rfl, a, _, rfl, hS, fun p1 n1 => ?_⟩
    rw [em]
    have s0 := same_new (o := .lst (ms.map V.int)) n1
    refine ⟨p1, ms, rfl, .inl (.inl upd_same), by omega, fun H1 p bas s1 np ep lb pb => ⟨p, rfl, ⟨_, .inl (.inl ep)⟩, ?_⟩⟩
    refine for_it (walk_list (K := K) (a := p) (xs := bas.map V.ref)) (fun i σ H' => CellsAt H' p bas ∧ SqL K H' a (ns.map V.int) ∧ TabsN tabs H' ∧ ∃ y1 y2 y3 y4, σ = [some (.ref a), y1, y2, y3, y4]) ⟨⟨ep, pb⟩, (s0.trans s1).seq hS, tb.ext (s0.trans s1), none, none, none, none, rfl⟩ (fun i σ H' _ hW => .inl (.inl hW.1.1)) (fun i x σ Ha Ha' hi hW hY => ?_) (fun σ Ha hW => ?_)
    · obtain ⟨ca, hSa, tba, y1, y2, y3, y4, rfl⟩ := hW
      obtain ⟨rfl, hx⟩ := hY
      rw [List.length_map] at hi
      rw [List.getElem?_map, List.getElem?_eq_getElem hi] at hx
      cases hx
      obtain ⟨c, hb⟩ := ca.2 i _ (List.getElem?_eq_getElem hi)
      refine ⟨bas[i], [.int (i : Int), .int c], rfl, .inl (.inl hb), rfl, .int (i : Int), [.int c], rfl, .int c, [], rfl, rfl, ?_⟩
      refine ⟨.ref a, rfl, .int c, rfl, .int (i : Int), rfl, a, ns, c, i, rfl, hSa, by omega, fun H2 r s2 nr R2 => ?_⟩
      refine ⟨.ref r, rfl, r, rfl, R2, fun H3 z o3 R3 hz z4 => ?_⟩
      refine ⟨.ref r, rfl, .str z, rfl, .ref r, rfl, .str z, rfl, r, z, rfl, R3, hz, fun H5 n o5 R5 n1 n3 n4 => ?_⟩
      have tb5 := tabs_row (tabs_row (tba.ext s2) R2 o3) R3 o5
      refine ⟨r, z, n, rfl, R5, hz, z4, n1, n3, n4, tb5, fun H7 x7 t7 => ⟨true, rfl, iteF ?_⟩⟩
      have all : OffN r Ha' H7 := ((OffN.same s2).trans (OffN.off (o3.trans o5))).trans x7
      exact ⟨ca.off all nr, seqN all nr hSa, t7, _, _, _, _, rfl⟩
    · obtain ⟨_, _, _, y1, y2, y3, y4, rfl⟩ := hW
      exact q _
end
end LH

namespace LH
open PySem PySem.Spec PyProof.Rows L2 NdefX LamX
theorem all_mk {l : PySem.W.OpenLaw} {w : World} {K : PySem.W.Frag} {h : Heap} {mg : Str → Option Value} {fa : Addr} (X : K.In h) (G : h.Ns mainGlobals mg) (hfa : mg "law" = some (.ref fa))
    {f_built : Addr} {od_built an_built : Option Addr} {sl_built : Array (Option Value)} {oc_built kV_built dc_built pm_built cd_built ct_built : Value}
    (a_built : PySem.W.nsIn K mainGlobals "built" = some (some (.ref f_built))) (l_built : K.lookup f_built = some ⟨oc_built, od_built, .func (PySem.W.fnOf "built" "built" (defArgs s_built) (defBody s_built) (defScope s_built) .none kV_built dc_built pm_built an_built cd_built ct_built), sl_built⟩) (c_built : PySem.W.codeIn K cd_built "built" = true) (k_built : PySem.W.keepIn K (.ref f_built) = true)
    {f_walked : Addr} {od_walked an_walked : Option Addr} {sl_walked : Array (Option Value)} {oc_walked kV_walked dc_walked pm_walked cd_walked ct_walked : Value}
    (a_walked : PySem.W.nsIn K mainGlobals "walked" = some (some (.ref f_walked))) (l_walked : K.lookup f_walked = some ⟨oc_walked, od_walked, .func (PySem.W.fnOf "walked" "walked" (defArgs s_walked) (defBody s_walked) (defScope s_walked) .none kV_walked dc_walked pm_walked an_walked cd_walked ct_walked), sl_walked⟩) (c_walked : PySem.W.codeIn K cd_walked "walked" = true) (k_walked : PySem.W.keepIn K (.ref f_walked) = true)
    {f_parted : Addr} {od_parted an_parted : Option Addr} {sl_parted : Array (Option Value)} {oc_parted kV_parted dc_parted pm_parted cd_parted ct_parted : Value}
    (a_parted : PySem.W.nsIn K mainGlobals "parted" = some (some (.ref f_parted))) (l_parted : K.lookup f_parted = some ⟨oc_parted, od_parted, .func (PySem.W.fnOf "parted" "parted" (defArgs s_parted) (defBody s_parted) (defScope s_parted) .none kV_parted dc_parted pm_parted an_parted cd_parted ct_parted), sl_parted⟩) (c_parted : PySem.W.codeIn K cd_parted "parted" = true) (k_parted : PySem.W.keepIn K (.ref f_parted) = true)
    {f_first_groups : Addr} {od_first_groups an_first_groups : Option Addr} {sl_first_groups : Array (Option Value)} {oc_first_groups kV_first_groups dc_first_groups pm_first_groups cd_first_groups ct_first_groups : Value}
    (a_first_groups : PySem.W.nsIn K mainGlobals "first_groups" = some (some (.ref f_first_groups))) (l_first_groups : K.lookup f_first_groups = some ⟨oc_first_groups, od_first_groups, .func (PySem.W.fnOf "first_groups" "first_groups" (defArgs s_first_groups) (defBody s_first_groups) (defScope s_first_groups) .none kV_first_groups dc_first_groups pm_first_groups an_first_groups cd_first_groups ct_first_groups), sl_first_groups⟩) (c_first_groups : PySem.W.codeIn K cd_first_groups "first_groups" = true) (k_first_groups : PySem.W.keepIn K (.ref f_first_groups) = true)
    {f_ways_back : Addr} {od_ways_back an_ways_back : Option Addr} {sl_ways_back : Array (Option Value)} {oc_ways_back kV_ways_back dc_ways_back pm_ways_back cd_ways_back ct_ways_back : Value}
    (a_ways_back : PySem.W.nsIn K mainGlobals "ways_back" = some (some (.ref f_ways_back))) (l_ways_back : K.lookup f_ways_back = some ⟨oc_ways_back, od_ways_back, .func (PySem.W.fnOf "ways_back" "ways_back" (defArgs s_ways_back) (defBody s_ways_back) (defScope s_ways_back) .none kV_ways_back dc_ways_back pm_ways_back an_ways_back cd_ways_back ct_ways_back), sl_ways_back⟩) (c_ways_back : PySem.W.codeIn K cd_ways_back "ways_back" = true) (k_ways_back : PySem.W.keepIn K (.ref f_ways_back) = true)
    {f_hits_of : Addr} {od_hits_of an_hits_of : Option Addr} {sl_hits_of : Array (Option Value)} {oc_hits_of kV_hits_of dc_hits_of pm_hits_of cd_hits_of ct_hits_of : Value}
    (a_hits_of : PySem.W.nsIn K mainGlobals "hits_of" = some (some (.ref f_hits_of))) (l_hits_of : K.lookup f_hits_of = some ⟨oc_hits_of, od_hits_of, .func (PySem.W.fnOf "hits_of" "hits_of" (defArgs s_hits_of) (defBody s_hits_of) (defScope s_hits_of) .none kV_hits_of dc_hits_of pm_hits_of an_hits_of cd_hits_of ct_hits_of), sl_hits_of⟩) (c_hits_of : PySem.W.codeIn K cd_hits_of "hits_of" = true) (k_hits_of : PySem.W.keepIn K (.ref f_hits_of) = true)
    {f_split_group : Addr} {od_split_group an_split_group : Option Addr} {sl_split_group : Array (Option Value)} {oc_split_group kV_split_group dc_split_group pm_split_group cd_split_group ct_split_group : Value}
    (a_split_group : PySem.W.nsIn K mainGlobals "split_group" = some (some (.ref f_split_group))) (l_split_group : K.lookup f_split_group = some ⟨oc_split_group, od_split_group, .func (PySem.W.fnOf "split_group" "split_group" (defArgs s_split_group) (defBody s_split_group) (defScope s_split_group) .none kV_split_group dc_split_group pm_split_group an_split_group cd_split_group ct_split_group), sl_split_group⟩) (c_split_group : PySem.W.codeIn K cd_split_group "split_group" = true) (k_split_group : PySem.W.keepIn K (.ref f_split_group) = true)
    {f_merged : Addr} {od_merged an_merged : Option Addr} {sl_merged : Array (Option Value)} {oc_merged kV_merged dc_merged pm_merged cd_merged ct_merged : Value}
    (a_merged : PySem.W.nsIn K mainGlobals "merged" = some (some (.ref f_merged))) (l_merged : K.lookup f_merged = some ⟨oc_merged, od_merged, .func (PySem.W.fnOf "merged" "merged" (defArgs s_merged) (defBody s_merged) (defScope s_merged) .none kV_merged dc_merged pm_merged an_merged cd_merged ct_merged), sl_merged⟩) (c_merged : PySem.W.codeIn K cd_merged "merged" = true) (k_merged : PySem.W.keepIn K (.ref f_merged) = true)
    {f_useful_ways : Addr} {od_useful_ways an_useful_ways : Option Addr} {sl_useful_ways : Array (Option Value)} {oc_useful_ways kV_useful_ways dc_useful_ways pm_useful_ways cd_useful_ways ct_useful_ways : Value}
    (a_useful_ways : PySem.W.nsIn K mainGlobals "useful_ways" = some (some (.ref f_useful_ways))) (l_useful_ways : K.lookup f_useful_ways = some ⟨oc_useful_ways, od_useful_ways, .func (PySem.W.fnOf "useful_ways" "useful_ways" (defArgs s_useful_ways) (defBody s_useful_ways) (defScope s_useful_ways) .none kV_useful_ways dc_useful_ways pm_useful_ways an_useful_ways cd_useful_ways ct_useful_ways), sl_useful_ways⟩) (c_useful_ways : PySem.W.codeIn K cd_useful_ways "useful_ways" = true) (k_useful_ways : PySem.W.keepIn K (.ref f_useful_ways) = true)
    {f_explored : Addr} {od_explored an_explored : Option Addr} {sl_explored : Array (Option Value)} {oc_explored kV_explored dc_explored pm_explored cd_explored ct_explored : Value}
    (a_explored : PySem.W.nsIn K mainGlobals "explored" = some (some (.ref f_explored))) (l_explored : K.lookup f_explored = some ⟨oc_explored, od_explored, .func (PySem.W.fnOf "explored" "explored" (defArgs s_explored) (defBody s_explored) (defScope s_explored) .none kV_explored dc_explored pm_explored an_explored cd_explored ct_explored), sl_explored⟩) (c_explored : PySem.W.codeIn K cd_explored "explored" = true) (k_explored : PySem.W.keepIn K (.ref f_explored) = true)
    {f_leading : Addr} {od_leading an_leading : Option Addr} {sl_leading : Array (Option Value)} {oc_leading kV_leading dc_leading pm_leading cd_leading ct_leading : Value}
    (a_leading : PySem.W.nsIn K mainGlobals "leading" = some (some (.ref f_leading))) (l_leading : K.lookup f_leading = some ⟨oc_leading, od_leading, .func (PySem.W.fnOf "leading" "leading" (defArgs s_leading) (defBody s_leading) (defScope s_leading) .none kV_leading dc_leading pm_leading an_leading cd_leading ct_leading), sl_leading⟩) (c_leading : PySem.W.codeIn K cd_leading "leading" = true) (k_leading : PySem.W.keepIn K (.ref f_leading) = true)
    {f_unseen : Addr} {od_unseen an_unseen : Option Addr} {sl_unseen : Array (Option Value)} {oc_unseen kV_unseen dc_unseen pm_unseen cd_unseen ct_unseen : Value}
    (a_unseen : PySem.W.nsIn K mainGlobals "unseen" = some (some (.ref f_unseen))) (l_unseen : K.lookup f_unseen = some ⟨oc_unseen, od_unseen, .func (PySem.W.fnOf "unseen" "unseen" (defArgs s_unseen) (defBody s_unseen) (defScope s_unseen) .none kV_unseen dc_unseen pm_unseen an_unseen cd_unseen ct_unseen), sl_unseen⟩) (c_unseen : PySem.W.codeIn K cd_unseen "unseen" = true) (k_unseen : PySem.W.keepIn K (.ref f_unseen) = true)
    {f_both : Addr} {od_both an_both : Option Addr} {sl_both : Array (Option Value)} {oc_both kV_both dc_both pm_both cd_both ct_both : Value}
    (a_both : PySem.W.nsIn K mainGlobals "both" = some (some (.ref f_both))) (l_both : K.lookup f_both = some ⟨oc_both, od_both, .func (PySem.W.fnOf "both" "both" (defArgs s_both) (defBody s_both) (defScope s_both) .none kV_both dc_both pm_both an_both cd_both ct_both), sl_both⟩) (c_both : PySem.W.codeIn K cd_both "both" = true) (k_both : PySem.W.keepIn K (.ref f_both) = true)
    {f_either : Addr} {od_either an_either : Option Addr} {sl_either : Array (Option Value)} {oc_either kV_either dc_either pm_either cd_either ct_either : Value}
    (a_either : PySem.W.nsIn K mainGlobals "either" = some (some (.ref f_either))) (l_either : K.lookup f_either = some ⟨oc_either, od_either, .func (PySem.W.fnOf "either" "either" (defArgs s_either) (defBody s_either) (defScope s_either) .none kV_either dc_either pm_either an_either cd_either ct_either), sl_either⟩) (c_either : PySem.W.codeIn K cd_either "either" = true) (k_either : PySem.W.keepIn K (.ref f_either) = true)
    {f_paired cr_paired pt_paired : Addr} {od_paired an_paired : Option Addr} {sl_paired : Array (Option Value)} {oc_paired kV_paired dc_paired pm_paired ct_paired : Value}
    (a_paired : PySem.W.nsIn K mainGlobals "paired" = some (some (.ref f_paired))) (l_paired : K.lookup f_paired = some ⟨oc_paired, od_paired, .func (PySem.W.fnOf "paired" "paired" (defArgs s_paired) (defBody s_paired) (defScope s_paired) .none kV_paired dc_paired pm_paired an_paired (.ref cr_paired) ct_paired), sl_paired⟩) (c_paired : PySem.W.codeIn K (.ref cr_paired) "paired" = true) (k_paired : PySem.W.keepIn K (.ref f_paired) = true)
    (h_paired : PySem.W.codeHdIn K cr_paired pt_paired = true) (n_paired : K.lookup pt_paired = none) (e_paired : h.get? pt_paired = some { cls := .none, data := .fields #[] })
    {f_end_marks : Addr} {od_end_marks an_end_marks : Option Addr} {sl_end_marks : Array (Option Value)} {oc_end_marks kV_end_marks dc_end_marks pm_end_marks cd_end_marks ct_end_marks : Value}
    (a_end_marks : PySem.W.nsIn K mainGlobals "end_marks" = some (some (.ref f_end_marks))) (l_end_marks : K.lookup f_end_marks = some ⟨oc_end_marks, od_end_marks, .func (PySem.W.fnOf "end_marks" "end_marks" (defArgs s_end_marks) (defBody s_end_marks) (defScope s_end_marks) .none kV_end_marks dc_end_marks pm_end_marks an_end_marks cd_end_marks ct_end_marks), sl_end_marks⟩) (c_end_marks : PySem.W.codeIn K cd_end_marks "end_marks" = true) (k_end_marks : PySem.W.keepIn K (.ref f_end_marks) = true)
    {f_ways_of cr_ways_of pt_ways_of : Addr} {od_ways_of an_ways_of : Option Addr} {sl_ways_of : Array (Option Value)} {oc_ways_of kV_ways_of dc_ways_of pm_ways_of ct_ways_of : Value}
    (a_ways_of : PySem.W.nsIn K mainGlobals "ways_of" = some (some (.ref f_ways_of))) (l_ways_of : K.lookup f_ways_of = some ⟨oc_ways_of, od_ways_of, .func (PySem.W.fnOf "ways_of" "ways_of" (defArgs s_ways_of) (defBody s_ways_of) (defScope s_ways_of) .none kV_ways_of dc_ways_of pm_ways_of an_ways_of (.ref cr_ways_of) ct_ways_of), sl_ways_of⟩) (c_ways_of : PySem.W.codeIn K (.ref cr_ways_of) "ways_of" = true) (k_ways_of : PySem.W.keepIn K (.ref f_ways_of) = true)
    (h_ways_of : PySem.W.codeHdIn K cr_ways_of pt_ways_of = true) (n_ways_of : K.lookup pt_ways_of = none) (e_ways_of : h.get? pt_ways_of = some { cls := .none, data := .fields #[] })
    {f_views_of : Addr} {od_views_of an_views_of : Option Addr} {sl_views_of : Array (Option Value)} {oc_views_of kV_views_of dc_views_of pm_views_of cd_views_of ct_views_of : Value}
    (a_views_of : PySem.W.nsIn K mainGlobals "views_of" = some (some (.ref f_views_of))) (l_views_of : K.lookup f_views_of = some ⟨oc_views_of, od_views_of, .func (PySem.W.fnOf "views_of" "views_of" (defArgs s_views_of) (defBody s_views_of) (defScope s_views_of) .none kV_views_of dc_views_of pm_views_of an_views_of cd_views_of ct_views_of), sl_views_of⟩) (c_views_of : PySem.W.codeIn K cd_views_of "views_of" = true) (k_views_of : PySem.W.keepIn K (.ref f_views_of) = true)
    {f_views_of_ways : Addr} {od_views_of_ways an_views_of_ways : Option Addr} {sl_views_of_ways : Array (Option Value)} {oc_views_of_ways kV_views_of_ways dc_views_of_ways pm_views_of_ways cd_views_of_ways ct_views_of_ways : Value}
    (a_views_of_ways : PySem.W.nsIn K mainGlobals "views_of_ways" = some (some (.ref f_views_of_ways))) (l_views_of_ways : K.lookup f_views_of_ways = some ⟨oc_views_of_ways, od_views_of_ways, .func (PySem.W.fnOf "views_of_ways" "views_of_ways" (defArgs s_views_of_ways) (defBody s_views_of_ways) (defScope s_views_of_ways) .none kV_views_of_ways dc_views_of_ways pm_views_of_ways an_views_of_ways cd_views_of_ways ct_views_of_ways), sl_views_of_ways⟩) (c_views_of_ways : PySem.W.codeIn K cd_views_of_ways "views_of_ways" = true) (k_views_of_ways : PySem.W.keepIn K (.ref f_views_of_ways) = true)
    {f_spread : Addr} {od_spread an_spread : Option Addr} {sl_spread : Array (Option Value)} {oc_spread kV_spread dc_spread pm_spread cd_spread ct_spread : Value}
    (a_spread : PySem.W.nsIn K mainGlobals "spread" = some (some (.ref f_spread))) (l_spread : K.lookup f_spread = some ⟨oc_spread, od_spread, .func (PySem.W.fnOf "spread" "spread" (defArgs s_spread) (defBody s_spread) (defScope s_spread) .none kV_spread dc_spread pm_spread an_spread cd_spread ct_spread), sl_spread⟩) (c_spread : PySem.W.codeIn K cd_spread "spread" = true) (k_spread : PySem.W.keepIn K (.ref f_spread) = true)
    {f_view_machine cr_view_machine pt_view_machine : Addr} {od_view_machine an_view_machine : Option Addr} {sl_view_machine : Array (Option Value)} {oc_view_machine kV_view_machine dc_view_machine pm_view_machine ct_view_machine : Value}
    (a_view_machine : PySem.W.nsIn K mainGlobals "view_machine" = some (some (.ref f_view_machine))) (l_view_machine : K.lookup f_view_machine = some ⟨oc_view_machine, od_view_machine, .func (PySem.W.fnOf "view_machine" "view_machine" (defArgs s_view_machine) (defBody s_view_machine) (defScope s_view_machine) .none kV_view_machine dc_view_machine pm_view_machine an_view_machine (.ref cr_view_machine) ct_view_machine), sl_view_machine⟩) (c_view_machine : PySem.W.codeIn K (.ref cr_view_machine) "view_machine" = true) (k_view_machine : PySem.W.keepIn K (.ref f_view_machine) = true)
    (h_view_machine : PySem.W.codeHdIn K cr_view_machine pt_view_machine = true) (n_view_machine : K.lookup pt_view_machine = none) (e_view_machine : h.get? pt_view_machine = some { cls := .none, data := .fields #[] })
    {f_seen_behind : Addr} {od_seen_behind an_seen_behind : Option Addr} {sl_seen_behind : Array (Option Value)} {oc_seen_behind kV_seen_behind dc_seen_behind pm_seen_behind cd_seen_behind ct_seen_behind : Value}
    (a_seen_behind : PySem.W.nsIn K mainGlobals "seen_behind" = some (some (.ref f_seen_behind))) (l_seen_behind : K.lookup f_seen_behind = some ⟨oc_seen_behind, od_seen_behind, .func (PySem.W.fnOf "seen_behind" "seen_behind" (defArgs s_seen_behind) (defBody s_seen_behind) (defScope s_seen_behind) .none kV_seen_behind dc_seen_behind pm_seen_behind an_seen_behind cd_seen_behind ct_seen_behind), sl_seen_behind⟩) (c_seen_behind : PySem.W.codeIn K cd_seen_behind "seen_behind" = true) (k_seen_behind : PySem.W.keepIn K (.ref f_seen_behind) = true)
    {f_law_hand : Addr} {od_law_hand an_law_hand : Option Addr} {sl_law_hand : Array (Option Value)} {oc_law_hand kV_law_hand dc_law_hand pm_law_hand cd_law_hand ct_law_hand : Value}
    (a_law_hand : PySem.W.nsIn K mainGlobals "_law_hand" = some (some (.ref f_law_hand))) (l_law_hand : K.lookup f_law_hand = some ⟨oc_law_hand, od_law_hand, .func (PySem.W.fnOf "_law_hand" "_law_hand" (defArgs s_law_hand) (defBody s_law_hand) (defScope s_law_hand) .none kV_law_hand dc_law_hand pm_law_hand an_law_hand cd_law_hand ct_law_hand), sl_law_hand⟩) (c_law_hand : PySem.W.codeIn K cd_law_hand "_law_hand" = true) (k_law_hand : PySem.W.keepIn K (.ref f_law_hand) = true)
    {f_law_draw : Addr} {od_law_draw an_law_draw : Option Addr} {sl_law_draw : Array (Option Value)} {oc_law_draw kV_law_draw dc_law_draw pm_law_draw cd_law_draw ct_law_draw : Value}
    (a_law_draw : PySem.W.nsIn K mainGlobals "_law_draw" = some (some (.ref f_law_draw))) (l_law_draw : K.lookup f_law_draw = some ⟨oc_law_draw, od_law_draw, .func (PySem.W.fnOf "_law_draw" "_law_draw" (defArgs s_law_draw) (defBody s_law_draw) (defScope s_law_draw) .none kV_law_draw dc_law_draw pm_law_draw an_law_draw cd_law_draw ct_law_draw), sl_law_draw⟩) (c_law_draw : PySem.W.codeIn K cd_law_draw "_law_draw" = true) (k_law_draw : PySem.W.keepIn K (.ref f_law_draw) = true)
    {f_law_cells : Addr} {od_law_cells an_law_cells : Option Addr} {sl_law_cells : Array (Option Value)} {oc_law_cells kV_law_cells dc_law_cells pm_law_cells cd_law_cells ct_law_cells : Value}
    (a_law_cells : PySem.W.nsIn K mainGlobals "_law_cells" = some (some (.ref f_law_cells))) (l_law_cells : K.lookup f_law_cells = some ⟨oc_law_cells, od_law_cells, .func (PySem.W.fnOf "_law_cells" "_law_cells" (defArgs s_law_cells) (defBody s_law_cells) (defScope s_law_cells) .none kV_law_cells dc_law_cells pm_law_cells an_law_cells cd_law_cells ct_law_cells), sl_law_cells⟩) (c_law_cells : PySem.W.codeIn K cd_law_cells "_law_cells" = true) (k_law_cells : PySem.W.keepIn K (.ref f_law_cells) = true)
    {f_law_letters : Addr} {od_law_letters an_law_letters : Option Addr} {sl_law_letters : Array (Option Value)} {oc_law_letters kV_law_letters dc_law_letters pm_law_letters cd_law_letters ct_law_letters : Value}
    (a_law_letters : PySem.W.nsIn K mainGlobals "_law_letters" = some (some (.ref f_law_letters))) (l_law_letters : K.lookup f_law_letters = some ⟨oc_law_letters, od_law_letters, .func (PySem.W.fnOf "_law_letters" "_law_letters" (defArgs s_law_letters) (defBody s_law_letters) (defScope s_law_letters) .none kV_law_letters dc_law_letters pm_law_letters an_law_letters cd_law_letters ct_law_letters), sl_law_letters⟩) (c_law_letters : PySem.W.codeIn K cd_law_letters "_law_letters" = true) (k_law_letters : PySem.W.keepIn K (.ref f_law_letters) = true)
    {f_law_short : Addr} {od_law_short an_law_short : Option Addr} {sl_law_short : Array (Option Value)} {oc_law_short kV_law_short dc_law_short pm_law_short cd_law_short ct_law_short : Value}
    (a_law_short : PySem.W.nsIn K mainGlobals "_law_short" = some (some (.ref f_law_short))) (l_law_short : K.lookup f_law_short = some ⟨oc_law_short, od_law_short, .func (PySem.W.fnOf "_law_short" "_law_short" (defArgs s_law_short) (defBody s_law_short) (defScope s_law_short) .none kV_law_short dc_law_short pm_law_short an_law_short cd_law_short ct_law_short), sl_law_short⟩) (c_law_short : PySem.W.codeIn K cd_law_short "_law_short" = true) (k_law_short : PySem.W.keepIn K (.ref f_law_short) = true)
    {f_law_rising : Addr} {od_law_rising an_law_rising : Option Addr} {sl_law_rising : Array (Option Value)} {oc_law_rising kV_law_rising dc_law_rising pm_law_rising cd_law_rising ct_law_rising : Value}
    (a_law_rising : PySem.W.nsIn K mainGlobals "_law_rising" = some (some (.ref f_law_rising))) (l_law_rising : K.lookup f_law_rising = some ⟨oc_law_rising, od_law_rising, .func (PySem.W.fnOf "_law_rising" "_law_rising" (defArgs s_law_rising) (defBody s_law_rising) (defScope s_law_rising) .none kV_law_rising dc_law_rising pm_law_rising an_law_rising cd_law_rising ct_law_rising), sl_law_rising⟩) (c_law_rising : PySem.W.codeIn K cd_law_rising "_law_rising" = true) (k_law_rising : PySem.W.keepIn K (.ref f_law_rising) = true)
    {f_law_size : Addr} {od_law_size an_law_size : Option Addr} {sl_law_size : Array (Option Value)} {oc_law_size kV_law_size dc_law_size pm_law_size cd_law_size ct_law_size : Value}
    (a_law_size : PySem.W.nsIn K mainGlobals "_law_size" = some (some (.ref f_law_size))) (l_law_size : K.lookup f_law_size = some ⟨oc_law_size, od_law_size, .func (PySem.W.fnOf "_law_size" "_law_size" (defArgs s_law_size) (defBody s_law_size) (defScope s_law_size) .none kV_law_size dc_law_size pm_law_size an_law_size cd_law_size ct_law_size), sl_law_size⟩) (c_law_size : PySem.W.codeIn K cd_law_size "_law_size" = true) (k_law_size : PySem.W.keepIn K (.ref f_law_size) = true)
    {f_law_machine : Addr} {od_law_machine an_law_machine : Option Addr} {sl_law_machine : Array (Option Value)} {oc_law_machine kV_law_machine dc_law_machine pm_law_machine cd_law_machine ct_law_machine : Value}
    (a_law_machine : PySem.W.nsIn K mainGlobals "_law_machine" = some (some (.ref f_law_machine))) (l_law_machine : K.lookup f_law_machine = some ⟨oc_law_machine, od_law_machine, .func (PySem.W.fnOf "_law_machine" "_law_machine" (defArgs s_law_machine) (defBody s_law_machine) (defScope s_law_machine) .none kV_law_machine dc_law_machine pm_law_machine an_law_machine cd_law_machine ct_law_machine), sl_law_machine⟩) (c_law_machine : PySem.W.codeIn K cd_law_machine "_law_machine" = true) (k_law_machine : PySem.W.keepIn K (.ref f_law_machine) = true)
    {f_law_drawn_views : Addr} {od_law_drawn_views an_law_drawn_views : Option Addr} {sl_law_drawn_views : Array (Option Value)} {oc_law_drawn_views kV_law_drawn_views dc_law_drawn_views pm_law_drawn_views cd_law_drawn_views ct_law_drawn_views : Value}
    (a_law_drawn_views : PySem.W.nsIn K mainGlobals "_law_drawn_views" = some (some (.ref f_law_drawn_views))) (l_law_drawn_views : K.lookup f_law_drawn_views = some ⟨oc_law_drawn_views, od_law_drawn_views, .func (PySem.W.fnOf "_law_drawn_views" "_law_drawn_views" (defArgs s_law_drawn_views) (defBody s_law_drawn_views) (defScope s_law_drawn_views) .none kV_law_drawn_views dc_law_drawn_views pm_law_drawn_views an_law_drawn_views cd_law_drawn_views ct_law_drawn_views), sl_law_drawn_views⟩) (c_law_drawn_views : PySem.W.codeIn K cd_law_drawn_views "_law_drawn_views" = true) (k_law_drawn_views : PySem.W.keepIn K (.ref f_law_drawn_views) = true)
    {f_law_right : Addr} {od_law_right an_law_right : Option Addr} {sl_law_right : Array (Option Value)} {oc_law_right kV_law_right dc_law_right pm_law_right cd_law_right ct_law_right : Value}
    (a_law_right : PySem.W.nsIn K mainGlobals "_law_right" = some (some (.ref f_law_right))) (l_law_right : K.lookup f_law_right = some ⟨oc_law_right, od_law_right, .func (PySem.W.fnOf "_law_right" "_law_right" (defArgs s_law_right) (defBody s_law_right) (defScope s_law_right) .none kV_law_right dc_law_right pm_law_right an_law_right cd_law_right ct_law_right), sl_law_right⟩) (c_law_right : PySem.W.codeIn K cd_law_right "_law_right" = true) (k_law_right : PySem.W.keepIn K (.ref f_law_right) = true)
    {f_law : Addr} {od_law an_law : Option Addr} {sl_law : Array (Option Value)} {oc_law kV_law dc_law pm_law cd_law ct_law : Value}
    (a_law : PySem.W.nsIn K mainGlobals "law" = some (some (.ref f_law))) (l_law : K.lookup f_law = some ⟨oc_law, od_law, .func (PySem.W.fnOf "law" "law" (defArgs s_law) (defBody s_law) (defScope s_law) .none kV_law dc_law pm_law an_law cd_law ct_law), sl_law⟩) (c_law : PySem.W.codeIn K cd_law "law" = true) (k_law : PySem.W.keepIn K (.ref f_law) = true)
    (d_paired_ways_of : pt_paired ≠ pt_ways_of)
    (d_paired_view_machine : pt_paired ≠ pt_view_machine)
    (d_ways_of_paired : pt_ways_of ≠ pt_paired)
    (d_ways_of_view_machine : pt_ways_of ≠ pt_view_machine)
    (d_view_machine_paired : pt_view_machine ≠ pt_paired)
    (d_view_machine_ways_of : pt_view_machine ≠ pt_ways_of)
    (z_all : PySem.W.nsIn K mainGlobals "all" = some none)
    (z_enumerate : PySem.W.nsIn K mainGlobals "enumerate" = some none)
    (z_int : PySem.W.nsIn K mainGlobals "int" = some none)
    (z_len : PySem.W.nsIn K mainGlobals "len" = some none)
    (z_list : PySem.W.nsIn K mainGlobals "list" = some none)
    (z_range : PySem.W.nsIn K mainGlobals "range" = some none)
    (z_set : PySem.W.nsIn K mainGlobals "set" = some none)
    (z_sorted : PySem.W.nsIn K mainGlobals "sorted" = some none)
    (z_sum : PySem.W.nsIn K mainGlobals "sum" = some none)
    (z_tuple : PySem.W.nsIn K mainGlobals "tuple" = some none)
    (z_zip : PySem.W.nsIn K mainGlobals "zip" = some none)
    : LamX.LawAtS l w K CX0 10 63 "script" mg fa h := by
  have e := hfa.symm.trans (PySem.W.mg_of X G a_law)
  cases e
  have F_built := fun_mk (st := s_built) l_built c_built k_built
  have F_walked := fun_mk (st := s_walked) l_walked c_walked k_walked
  have F_parted := fun_mk (st := s_parted) l_parted c_parted k_parted
  have F_first_groups := fun_mk (st := s_first_groups) l_first_groups c_first_groups k_first_groups
  have F_ways_back := fun_mk (st := s_ways_back) l_ways_back c_ways_back k_ways_back
  have F_hits_of := fun_mk (st := s_hits_of) l_hits_of c_hits_of k_hits_of
  have F_split_group := fun_mk (st := s_split_group) l_split_group c_split_group k_split_group
  have F_merged := fun_mk (st := s_merged) l_merged c_merged k_merged
  have F_useful_ways := fun_mk (st := s_useful_ways) l_useful_ways c_useful_ways k_useful_ways
  have F_explored := fun_mk (st := s_explored) l_explored c_explored k_explored
  have F_leading := fun_mk (st := s_leading) l_leading c_leading k_leading
  have F_unseen := fun_mk (st := s_unseen) l_unseen c_unseen k_unseen
  have F_both := fun_mk (st := s_both) l_both c_both k_both
  have F_either := fun_mk (st := s_either) l_either c_either k_either
  have F_paired := fun_mk (st := s_paired) l_paired c_paired k_paired
  have F_end_marks := fun_mk (st := s_end_marks) l_end_marks c_end_marks k_end_marks
  have F_ways_of := fun_mk (st := s_ways_of) l_ways_of c_ways_of k_ways_of
  have F_views_of := fun_mk (st := s_views_of) l_views_of c_views_of k_views_of
  have F_views_of_ways := fun_mk (st := s_views_of_ways) l_views_of_ways c_views_of_ways k_views_of_ways
  have F_spread := fun_mk (st := s_spread) l_spread c_spread k_spread
  have F_view_machine := fun_mk (st := s_view_machine) l_view_machine c_view_machine k_view_machine
  have F_seen_behind := fun_mk (st := s_seen_behind) l_seen_behind c_seen_behind k_seen_behind
  have F_law_hand := fun_mk (st := s_law_hand) l_law_hand c_law_hand k_law_hand
  have F_law_draw := fun_mk (st := s_law_draw) l_law_draw c_law_draw k_law_draw
  have F_law_cells := fun_mk (st := s_law_cells) l_law_cells c_law_cells k_law_cells
  have F_law_letters := fun_mk (st := s_law_letters) l_law_letters c_law_letters k_law_letters
  have F_law_short := fun_mk (st := s_law_short) l_law_short c_law_short k_law_short
  have F_law_rising := fun_mk (st := s_law_rising) l_law_rising c_law_rising k_law_rising
  have F_law_size := fun_mk (st := s_law_size) l_law_size c_law_size k_law_size
  have F_law_machine := fun_mk (st := s_law_machine) l_law_machine c_law_machine k_law_machine
  have F_law_drawn_views := fun_mk (st := s_law_drawn_views) l_law_drawn_views c_law_drawn_views k_law_drawn_views
  have F_law_right := fun_mk (st := s_law_right) l_law_right c_law_right k_law_right
  have F_law := fun_mk (st := s_law) l_law c_law k_law
  let T : TX K mg := {
    a_built := f_built, fd_built := _, F_built := F_built, b_built := F_built.binds (ps := ["letters", "start", "follow", "is_end"]) (fun _ _ _ _ _ _ us hl => match us, hl with | [_, _, _, _], _ => rfl), g_built := PySem.W.mg_of X G a_built,
    a_walked := f_walked, fd_walked := _, F_walked := F_walked, b_walked := F_walked.binds (ps := ["start", "follow"]) (fun _ _ _ _ _ _ us hl => match us, hl with | [_, _], _ => rfl), g_walked := PySem.W.mg_of X G a_walked,
    a_parted := f_parted, fd_parted := _, F_parted := F_parted, b_parted := F_parted.binds (ps := ["table", "ended"]) (fun _ _ _ _ _ _ us hl => match us, hl with | [_, _], _ => rfl), g_parted := PySem.W.mg_of X G a_parted,
    a_first_groups := f_first_groups, fd_first_groups := _, F_first_groups := F_first_groups, b_first_groups := F_first_groups.binds (ps := ["ended"]) (fun _ _ _ _ _ _ us hl => match us, hl with | [_], _ => rfl), g_first_groups := PySem.W.mg_of X G a_first_groups,
    a_ways_back := f_ways_back, fd_ways_back := _, F_ways_back := F_ways_back, b_ways_back := F_ways_back.binds (ps := ["table"]) (fun _ _ _ _ _ _ us hl => match us, hl with | [_], _ => rfl), g_ways_back := PySem.W.mg_of X G a_ways_back,
    a_hits_of := f_hits_of, fd_hits_of := _, F_hits_of := F_hits_of, b_hits_of := F_hits_of.binds (ps := ["back", "targets", "homes"]) (fun _ _ _ _ _ _ us hl => match us, hl with | [_, _, _], _ => rfl), g_hits_of := PySem.W.mg_of X G a_hits_of,
    a_split_group := f_split_group, fd_split_group := _, F_split_group := F_split_group, b_split_group := F_split_group.binds (ps := ["groups", "homes", "home", "hit"]) (fun _ _ _ _ _ _ us hl => match us, hl with | [_, _, _, _], _ => rfl), g_split_group := PySem.W.mg_of X G a_split_group,
    a_merged := f_merged, fd_merged := _, F_merged := F_merged, b_merged := F_merged.binds (ps := ["letters", "table", "ended", "homes"]) (fun _ _ _ _ _ _ us hl => match us, hl with | [_, _, _, _], _ => rfl), g_merged := PySem.W.mg_of X G a_merged,
    a_useful_ways := f_useful_ways, fd_useful_ways := _, F_useful_ways := F_useful_ways, b_useful_ways := F_useful_ways.binds (ps := ["starts", "moves", "is_end"]) (fun _ _ _ _ _ _ us hl => match us, hl with | [_, _, _], _ => rfl), g_useful_ways := PySem.W.mg_of X G a_useful_ways,
    a_explored := f_explored, fd_explored := _, F_explored := F_explored, b_explored := F_explored.binds (ps := ["starts", "moves"]) (fun _ _ _ _ _ _ us hl => match us, hl with | [_, _], _ => rfl), g_explored := PySem.W.mg_of X G a_explored,
    a_leading := f_leading, fd_leading := _, F_leading := F_leading, b_leading := F_leading.binds (ps := ["rows", "ended"]) (fun _ _ _ _ _ _ us hl => match us, hl with | [_, _], _ => rfl), g_leading := PySem.W.mg_of X G a_leading,
    a_unseen := f_unseen, fd_unseen := _, F_unseen := F_unseen, b_unseen := F_unseen.binds (ps := ["lists", "seen"]) (fun _ _ _ _ _ _ us hl => match us, hl with | [_, _], _ => rfl), g_unseen := PySem.W.mg_of X G a_unseen,
    a_both := f_both, fd_both := _, F_both := F_both, b_both := F_both.binds (ps := ["one", "other"]) (fun _ _ _ _ _ _ us hl => match us, hl with | [_, _], _ => rfl), g_both := PySem.W.mg_of X G a_both,
    a_either := f_either, fd_either := _, F_either := F_either, b_either := F_either.binds (ps := ["one", "other"]) (fun _ _ _ _ _ _ us hl => match us, hl with | [_, _], _ => rfl), g_either := PySem.W.mg_of X G a_either,
    a_paired := f_paired, fd_paired := _, F_paired := F_paired, b_paired := F_paired.binds (ps := ["one", "other", "wanted"]) (fun _ _ _ _ _ _ us hl => match us, hl with | [_, _, _], _ => rfl), g_paired := PySem.W.mg_of X G a_paired,
    a_end_marks := f_end_marks, fd_end_marks := _, F_end_marks := F_end_marks, b_end_marks := F_end_marks.binds (ps := ["machine"]) (fun _ _ _ _ _ _ us hl => match us, hl with | [_], _ => rfl), g_end_marks := PySem.W.mg_of X G a_end_marks,
    a_ways_of := f_ways_of, fd_ways_of := _, F_ways_of := F_ways_of, b_ways_of := F_ways_of.binds (ps := ["machine"]) (fun _ _ _ _ _ _ us hl => match us, hl with | [_], _ => rfl), g_ways_of := PySem.W.mg_of X G a_ways_of,
    a_views_of := f_views_of, fd_views_of := _, F_views_of := F_views_of, b_views_of := F_views_of.binds (ps := ["machine", "size"]) (fun _ _ _ _ _ _ us hl => match us, hl with | [_, _], _ => rfl), g_views_of := PySem.W.mg_of X G a_views_of,
    a_views_of_ways := f_views_of_ways, fd_views_of_ways := _, F_views_of_ways := F_views_of_ways, b_views_of_ways := F_views_of_ways.binds (ps := ["letters", "ways", "size"]) (fun _ _ _ _ _ _ us hl => match us, hl with | [_, _, _], _ => rfl), g_views_of_ways := PySem.W.mg_of X G a_views_of_ways,
    a_spread := f_spread, fd_spread := _, F_spread := F_spread, b_spread := F_spread.binds (ps := ["lists", "nexts"]) (fun _ _ _ _ _ _ us hl => match us, hl with | [_, _], _ => rfl), g_spread := PySem.W.mg_of X G a_spread,
    a_view_machine := f_view_machine, fd_view_machine := _, F_view_machine := F_view_machine, b_view_machine := F_view_machine.binds (ps := ["letters", "views", "size"]) (fun _ _ _ _ _ _ us hl => match us, hl with | [_, _, _], _ => rfl), g_view_machine := PySem.W.mg_of X G a_view_machine,
    a_seen_behind := f_seen_behind, fd_seen_behind := _, F_seen_behind := F_seen_behind, b_seen_behind := F_seen_behind.binds (ps := ["held", "letter", "known", "size"]) (fun _ _ _ _ _ _ us hl => match us, hl with | [_, _, _, _], _ => rfl), g_seen_behind := PySem.W.mg_of X G a_seen_behind,
    a_law_hand := f_law_hand, fd_law_hand := _, F_law_hand := F_law_hand, b_law_hand := F_law_hand.binds (ps := ["script", "cell", "k"]) (fun _ _ _ _ _ _ us hl => match us, hl with | [_, _, _], _ => rfl), g_law_hand := PySem.W.mg_of X G a_law_hand,
    a_law_draw := f_law_draw, fd_law_draw := _, F_law_draw := F_law_draw, b_law_draw := F_law_draw.binds (ps := ["hand", "limit"]) (fun _ _ _ _ _ _ us hl => match us, hl with | [_, _], _ => rfl), g_law_draw := PySem.W.mg_of X G a_law_draw,
    a_law_cells := f_law_cells, fd_law_cells := _, F_law_cells := F_law_cells, b_law_cells := F_law_cells.binds (ps := ["script"]) (fun _ _ _ _ _ _ us hl => match us, hl with | [_], _ => rfl), g_law_cells := PySem.W.mg_of X G a_law_cells,
    a_law_letters := f_law_letters, fd_law_letters := _, F_law_letters := F_law_letters, b_law_letters := F_law_letters.binds (ps := ["hand", "most"]) (fun _ _ _ _ _ _ us hl => match us, hl with | [_, _], _ => rfl), g_law_letters := PySem.W.mg_of X G a_law_letters,
    a_law_short := f_law_short, fd_law_short := _, F_law_short := F_law_short, b_law_short := F_law_short.binds (ps := ["letters", "size"]) (fun _ _ _ _ _ _ us hl => match us, hl with | [_, _], _ => rfl), g_law_short := PySem.W.mg_of X G a_law_short,
    a_law_rising := f_law_rising, fd_law_rising := _, F_law_rising := F_law_rising, b_law_rising := F_law_rising.binds (ps := ["words"]) (fun _ _ _ _ _ _ us hl => match us, hl with | [_], _ => rfl), g_law_rising := PySem.W.mg_of X G a_law_rising,
    a_law_size := f_law_size, fd_law_size := _, F_law_size := F_law_size, b_law_size := F_law_size.binds (ps := ["hand", "letters"]) (fun _ _ _ _ _ _ us hl => match us, hl with | [_, _], _ => rfl), g_law_size := PySem.W.mg_of X G a_law_size,
    a_law_machine := f_law_machine, fd_law_machine := _, F_law_machine := F_law_machine, b_law_machine := F_law_machine.binds (ps := ["hand", "letters", "most"]) (fun _ _ _ _ _ _ us hl => match us, hl with | [_, _, _], _ => rfl), g_law_machine := PySem.W.mg_of X G a_law_machine,
    a_law_drawn_views := f_law_drawn_views, fd_law_drawn_views := _, F_law_drawn_views := F_law_drawn_views, b_law_drawn_views := F_law_drawn_views.binds (ps := ["hand", "letters", "size"]) (fun _ _ _ _ _ _ us hl => match us, hl with | [_, _, _], _ => rfl), g_law_drawn_views := PySem.W.mg_of X G a_law_drawn_views,
    a_law_right := f_law_right, fd_law_right := _, F_law_right := F_law_right, b_law_right := F_law_right.binds (ps := ["hand", "letters", "size"]) (fun _ _ _ _ _ _ us hl => match us, hl with | [_, _, _], _ => rfl), g_law_right := PySem.W.mg_of X G a_law_right,
    m_all := PySem.W.mg_none_of X G z_all,
    m_enumerate := PySem.W.mg_none_of X G z_enumerate,
    m_int := PySem.W.mg_none_of X G z_int,
    m_len := PySem.W.mg_none_of X G z_len,
    m_list := PySem.W.mg_none_of X G z_list,
    m_range := PySem.W.mg_none_of X G z_range,
    m_set := PySem.W.mg_none_of X G z_set,
    m_sorted := PySem.W.mg_none_of X G z_sorted,
    m_sum := PySem.W.mg_none_of X G z_sum,
    m_tuple := PySem.W.mg_none_of X G z_tuple,
    m_zip := PySem.W.mg_none_of X G z_zip }
  refine ⟨PySem.W.fnOf "law" "law" (defArgs s_law) (defBody s_law) (defScope s_law) .none kV_law dc_law pm_law an_law cd_law ct_law, [(cr_paired, pt_paired), (cr_ways_of, pt_ways_of), (cr_view_machine, pt_view_machine)], sp_law K [(pt_paired, nm_paired), (pt_ways_of, nm_ways_of), (pt_view_machine, nm_view_machine)], (fun p hp => by
      simp only [List.mem_cons, List.mem_nil_iff, or_false] at hp
      rcases hp with rfl | rfl | rfl
      · exact e_paired
      · exact e_ways_of
      · exact e_view_machine), (fun p hp => by
      simp only [List.mem_cons, List.mem_nil_iff, or_false] at hp
      rcases hp with rfl | rfl | rfl
      · exact n_paired
      · exact n_ways_of
      · exact n_view_machine), (fun p hp => by
      simp only [List.mem_cons, List.mem_nil_iff, or_false] at hp
      rcases hp with rfl | rfl | rfl
      · exact PySem.W.codeHd_of_K X h_paired
      · exact PySem.W.codeHd_of_K X h_ways_of
      · exact PySem.W.codeHd_of_K X h_view_machine), fun s v => .of_eq rfl, fun H a ns hl _ ht hS => ⟨a, ns, rfl, hS, hl, (fun p hp => by
      simp only [List.mem_cons, List.mem_nil_iff, or_false] at hp
      rcases hp with rfl | rfl | rfl
      · exact NdefX.TabN.nil (ht (cr_paired, pt_paired) (by simp))
      · exact NdefX.TabN.nil (ht (cr_ways_of, pt_ways_of) (by simp))
      · exact NdefX.TabN.nil (ht (cr_view_machine, pt_view_machine) (by simp))), fun _ => rfl⟩, fun base _ _ tB => ?_⟩
  have C_paired : FunC K "paired" "paired" s_paired T.a_paired T.fd_paired cr_paired := ⟨_, _, _, _, _, _, _, _, rfl, l_paired, c_paired⟩
  have G_paired := ok_paired (P := l.prog) (w := w) (base := base) T (tabs := [(pt_paired, nm_paired), (pt_ways_of, nm_ways_of), (pt_view_machine, nm_view_machine)]) C_paired (tB (cr_paired, pt_paired) (by simp)) (by simp) (fun p hp hpe => by
    simp only [List.mem_cons, List.mem_nil_iff, or_false] at hp
    rcases hp with rfl | rfl | rfl
    · rfl
    · exact absurd hpe d_ways_of_paired
    · exact absurd hpe d_view_machine_paired)
  have C_ways_of : FunC K "ways_of" "ways_of" s_ways_of T.a_ways_of T.fd_ways_of cr_ways_of := ⟨_, _, _, _, _, _, _, _, rfl, l_ways_of, c_ways_of⟩
  have G_ways_of := ok_ways_of (P := l.prog) (w := w) (base := base) T (tabs := [(pt_paired, nm_paired), (pt_ways_of, nm_ways_of), (pt_view_machine, nm_view_machine)]) C_ways_of (tB (cr_ways_of, pt_ways_of) (by simp)) (by simp) (fun p hp hpe => by
    simp only [List.mem_cons, List.mem_nil_iff, or_false] at hp
    rcases hp with rfl | rfl | rfl
    · exact absurd hpe d_paired_ways_of
    · rfl
    · exact absurd hpe d_view_machine_ways_of)
  have C_view_machine : FunC K "view_machine" "view_machine" s_view_machine T.a_view_machine T.fd_view_machine cr_view_machine := ⟨_, _, _, _, _, _, _, _, rfl, l_view_machine, c_view_machine⟩
  have G_view_machine := ok_view_machine (P := l.prog) (w := w) (base := base) T (tabs := [(pt_paired, nm_paired), (pt_ways_of, nm_ways_of), (pt_view_machine, nm_view_machine)]) C_view_machine (tB (cr_view_machine, pt_view_machine) (by simp)) (by simp) (fun p hp hpe => by
    simp only [List.mem_cons, List.mem_nil_iff, or_false] at hp
    rcases hp with rfl | rfl | rfl
    · exact absurd hpe d_paired_view_machine
    · exact absurd hpe d_ways_of_view_machine
    · rfl)
  exact ok_law F_law T G_paired G_ways_of G_view_machine
end LH
open PySem PySem.W PyProof.Rows
set_option maxHeartbeats 0 in
theorem PySem.Challenge.cw_likehands_k60_whole_views_put_together_holds : PySem.Challenge.rw_likehands_k60_whole_views_put_together.Holds := by
  w_on; o_law; k_head; (case hw => w_witness2)
  k_fill
  refine LamX.walk_ofTs (l := PySem.Challenge.rw_likehands_k60_whole_views_put_together) (n := 63) (k := 10) (x := "script") (CX := fun _ => L2.CX0) rfl (by decide) rfl ⟨rfl, by decide, by decide⟩ (fun w h Y => PySem.W.km_in_of Y) ?F (fun _ _ _ _ _ h => h)
  case F =>
    intro w mg fa h Y KX G hmg
    have tt := PySem.W.km_tabs_of Y
    refine' LH.all_mk KX G hmg ?a_built ?l_built ?c_built ?k_built ?a_walked ?l_walked ?c_walked ?k_walked ?a_parted ?l_parted ?c_parted ?k_parted ?a_first_groups ?l_first_groups ?c_first_groups ?k_first_groups ?a_ways_back ?l_ways_back ?c_ways_back ?k_ways_back ?a_hits_of ?l_hits_of ?c_hits_of ?k_hits_of ?a_split_group ?l_split_group ?c_split_group ?k_split_group ?a_merged ?l_merged ?c_merged ?k_merged ?a_useful_ways ?l_useful_ways ?c_useful_ways ?k_useful_ways ?a_explored ?l_explored ?c_explored ?k_explored ?a_leading ?l_leading ?c_leading ?k_leading ?a_unseen ?l_unseen ?c_unseen ?k_unseen ?a_both ?l_both ?c_both ?k_both ?a_either ?l_either ?c_either ?k_either ?a_paired ?l_paired ?c_paired ?k_paired ?h_paired ?n_paired (tt 96 (by simp)) ?a_end_marks ?l_end_marks ?c_end_marks ?k_end_marks ?a_ways_of ?l_ways_of ?c_ways_of ?k_ways_of ?h_ways_of ?n_ways_of (tt 108 (by simp)) ?a_views_of ?l_views_of ?c_views_of ?k_views_of ?a_views_of_ways ?l_views_of_ways ?c_views_of_ways ?k_views_of_ways ?a_spread ?l_spread ?c_spread ?k_spread ?a_view_machine ?l_view_machine ?c_view_machine ?k_view_machine ?h_view_machine ?n_view_machine (tt 134 (by simp)) ?a_seen_behind ?l_seen_behind ?c_seen_behind ?k_seen_behind ?a_law_hand ?l_law_hand ?c_law_hand ?k_law_hand ?a_law_draw ?l_law_draw ?c_law_draw ?k_law_draw ?a_law_cells ?l_law_cells ?c_law_cells ?k_law_cells ?a_law_letters ?l_law_letters ?c_law_letters ?k_law_letters ?a_law_short ?l_law_short ?c_law_short ?k_law_short ?a_law_rising ?l_law_rising ?c_law_rising ?k_law_rising ?a_law_size ?l_law_size ?c_law_size ?k_law_size ?a_law_machine ?l_law_machine ?c_law_machine ?k_law_machine ?a_law_drawn_views ?l_law_drawn_views ?c_law_drawn_views ?k_law_drawn_views ?a_law_right ?l_law_right ?c_law_right ?k_law_right ?a_law ?l_law ?c_law ?k_law (by decide) (by decide) (by decide) (by decide) (by decide) (by decide) ?z_all ?z_enumerate ?z_int ?z_len ?z_list ?z_range ?z_set ?z_sorted ?z_sum ?z_tuple ?z_zip
    (case a_built => k_is)
    (case l_built => k_is)
    (case c_built => k_is)
    (case k_built => k_is)
    (case a_walked => k_is)
    (case l_walked => k_is)
    (case c_walked => k_is)
    (case k_walked => k_is)
    (case a_parted => k_is)
    (case l_parted => k_is)
    (case c_parted => k_is)
    (case k_parted => k_is)
    (case a_first_groups => k_is)
    (case l_first_groups => k_is)
    (case c_first_groups => k_is)
    (case k_first_groups => k_is)
    (case a_ways_back => k_is)
    (case l_ways_back => k_is)
    (case c_ways_back => k_is)
    (case k_ways_back => k_is)
    (case a_hits_of => k_is)
    (case l_hits_of => k_is)
    (case c_hits_of => k_is)
    (case k_hits_of => k_is)
    (case a_split_group => k_is)
    (case l_split_group => k_is)
    (case c_split_group => k_is)
    (case k_split_group => k_is)
    (case a_merged => k_is)
    (case l_merged => k_is)
    (case c_merged => k_is)
    (case k_merged => k_is)
    (case a_useful_ways => k_is)
    (case l_useful_ways => k_is)
    (case c_useful_ways => k_is)
    (case k_useful_ways => k_is)
    (case a_explored => k_is)
    (case l_explored => k_is)
    (case c_explored => k_is)
    (case k_explored => k_is)
    (case a_leading => k_is)
    (case l_leading => k_is)
    (case c_leading => k_is)
    (case k_leading => k_is)
    (case a_unseen => k_is)
    (case l_unseen => k_is)
    (case c_unseen => k_is)
    (case k_unseen => k_is)
    (case a_both => k_is)
    (case l_both => k_is)
    (case c_both => k_is)
    (case k_both => k_is)
    (case a_either => k_is)
    (case l_either => k_is)
    (case c_either => k_is)
    (case k_either => k_is)
    (case a_paired => k_is)
    (case l_paired => k_is)
    (case c_paired => k_is)
    (case k_paired => k_is)
    (case h_paired => first | kernel_rfl | rfl | decide +kernel)
    (case n_paired => first | kernel_rfl | rfl | decide +kernel)
    (case a_end_marks => k_is)
    (case l_end_marks => k_is)
    (case c_end_marks => k_is)
    (case k_end_marks => k_is)
    (case a_ways_of => k_is)
    (case l_ways_of => k_is)
    (case c_ways_of => k_is)
    (case k_ways_of => k_is)
    (case h_ways_of => first | kernel_rfl | rfl | decide +kernel)
    (case n_ways_of => first | kernel_rfl | rfl | decide +kernel)
    (case a_views_of => k_is)
    (case l_views_of => k_is)
    (case c_views_of => k_is)
    (case k_views_of => k_is)
    (case a_views_of_ways => k_is)
    (case l_views_of_ways => k_is)
    (case c_views_of_ways => k_is)
    (case k_views_of_ways => k_is)
    (case a_spread => k_is)
    (case l_spread => k_is)
    (case c_spread => k_is)
    (case k_spread => k_is)
    (case a_view_machine => k_is)
    (case l_view_machine => k_is)
    (case c_view_machine => k_is)
    (case k_view_machine => k_is)
    (case h_view_machine => first | kernel_rfl | rfl | decide +kernel)
    (case n_view_machine => first | kernel_rfl | rfl | decide +kernel)
    (case a_seen_behind => k_is)
    (case l_seen_behind => k_is)
    (case c_seen_behind => k_is)
    (case k_seen_behind => k_is)
    (case a_law_hand => k_is)
    (case l_law_hand => k_is)
    (case c_law_hand => k_is)
    (case k_law_hand => k_is)
    (case a_law_draw => k_is)
    (case l_law_draw => k_is)
    (case c_law_draw => k_is)
    (case k_law_draw => k_is)
    (case a_law_cells => k_is)
    (case l_law_cells => k_is)
    (case c_law_cells => k_is)
    (case k_law_cells => k_is)
    (case a_law_letters => k_is)
    (case l_law_letters => k_is)
    (case c_law_letters => k_is)
    (case k_law_letters => k_is)
    (case a_law_short => k_is)
    (case l_law_short => k_is)
    (case c_law_short => k_is)
    (case k_law_short => k_is)
    (case a_law_rising => k_is)
    (case l_law_rising => k_is)
    (case c_law_rising => k_is)
    (case k_law_rising => k_is)
    (case a_law_size => k_is)
    (case l_law_size => k_is)
    (case c_law_size => k_is)
    (case k_law_size => k_is)
    (case a_law_machine => k_is)
    (case l_law_machine => k_is)
    (case c_law_machine => k_is)
    (case k_law_machine => k_is)
    (case a_law_drawn_views => k_is)
    (case l_law_drawn_views => k_is)
    (case c_law_drawn_views => k_is)
    (case k_law_drawn_views => k_is)
    (case a_law_right => k_is)
    (case l_law_right => k_is)
    (case c_law_right => k_is)
    (case k_law_right => k_is)
    (case a_law => k_is)
    (case l_law => k_is)
    (case c_law => k_is)
    (case k_law => k_is)
    (case z_all => k_is)
    (case z_enumerate => k_is)
    (case z_int => k_is)
    (case z_len => k_is)
    (case z_list => k_is)
    (case z_range => k_is)
    (case z_set => k_is)
    (case z_sorted => k_is)
    (case z_sum => k_is)
    (case z_tuple => k_is)
    (case z_zip => k_is)
