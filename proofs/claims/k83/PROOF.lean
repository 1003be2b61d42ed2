import PyProof.Rows.All
import Wide.All
import OpenK.AllK
import Wide.FinOn
import HandS.ForMost
import HandS.Style
import HandS.IsInst
import HandS.Replace
import HandS.Wide
import HandS.Codes
import HandS.Walk
import HandS.DictComp
import HandS.Conv
import HandS.Nested
import HandS.EndTab
import PyProof.ListStr
import PyProof.StrOps2
import HandS.Conv
import HandS.Deep
import HandS.ExcIs
import HandS.FStr
import HandS.FStrTup
import HandS.HeadHook3
import HandS.IsInst
import HandS.More
import HandS.Set
import HandS.SetBool
import HandS.SetKeys
import HandS.SetTxt0
import HandS.SortRule
import HandS.StrMore
import HandS.Strs
import HandS.Style
import HandS.TupAny
import HandS.TupMul
import HandS.WordsExc
import KE.GoesEnum
import KE.GoesMore
import KE.GoesZip
import KE.KRevSl
import KE.KeyNested
import KE.SortData
import PyProof.CollectStr
import PyProof.EnumMake
import PyProof.P3Eq
import PyProof.Rows.SetFrom
import PyProof.Rows.SortShellAny
import PyProof.SliceStr2
import PyProof.TupleOfStr
import PySem.Challenge.RW_likehands_k83_texts_of_no_map
set_option Elab.async false
set_option linter.all false
set_option maxRecDepth 100000
set_option maxHeartbeats 4000000
namespace LH
open PySem PySem.Spec PyProof.Rows L2
/-! ### list(text) -/
section
variable {X : Cx}
def sgns (z : Str) : List V := z.cps.toList.map fun c => V.str ⟨#[c]⟩
theorem sgns_len (z : Str) : (sgns z).length = z.length := by
  unfold sgns
  rw [List.length_map, Array.length_toList]
  rfl
theorem vals_by : ∀ {xs : List V} {us : List Value}, xs.length = us.length → (∀ (j : Nat) (x : V) (u : Value), xs[j]? = some x → us[j]? = some u → RelV x u) → Vals xs us
  | [], [], _, _ => .nil
  | [], _ :: _, h, _ => by cases h
  | _ :: _, [], h, _ => by cases h
  | x :: xs, u :: us, h, q => .cons (q 0 x u rfl rfl) (vals_by (Nat.succ.inj h) fun j y v a b => q (j + 1) y v a b)
theorem vals_sgns {z : Str} {acc : Array Value} (h : ItemsOf (SignAt z) acc z.cps.size) : Vals (sgns z) acc.toList := by
  have hn : acc.size = z.cps.size := h.1
  refine vals_by ?_ fun j x u a b => ?_
  · rw [sgns_len, Array.length_toList, hn]
    rfl
  · rw [Array.getElem?_toList] at b
    obtain ⟨c, t, e1, e2⟩ := h.2 j u b
    unfold sgns at a
    rw [List.getElem?_map, Array.getElem?_toList, e1] at a
    cases a
    subst e2
    exact ⟨_, rfl⟩
theorem call_listS (hc : X.calm = true) : CallR X (.type "list") (fun xs H Q => ∃ z : Str, xs = [.str z] ∧ z.length ≤ sizeLine ∧ ∀ p, H p = none → Q (.ref p) (upd H p (.lst (sgns z)))) := by
  intro pins s σ H xs us Q I r h
  obtain ⟨z, rfl, hz, q⟩ := h
  obtain ⟨u, rfl, rx⟩ := vals1 r
  obtain ⟨t, rfl⟩ := rx
  refine PySem.call_list_str (I.ok.hd hc) z t (fun h' tk acc' c' kp e ha => ?_) hz
  exact ⟨.ref s.heap.objs.size, _, I.laid (t' := tk) kp (Nat.le_refl _) (show ObjOk X.prog X.w _ h' _ (.lst (sgns z)) from ⟨by rw [sgns_len]; exact hz, acc'.toList, c', vals_sgns ha, e⟩), rfl, q _ (I.hok.fresh (Nat.le_refl _))⟩
/-! ### text * number -/
def repS (z : Str) (n : Nat) : Str := ⟨(List.replicate n z.cps.toList).flatten.toArray⟩
theorem foldl_repS (z : Array Nat) : ∀ (n : Nat) (a : Array Nat), (List.replicate n z).foldl (· ++ ·) a = a ++ (List.replicate n z.toList).flatten.toArray
  | 0, a => by simp
  | n + 1, a => by
    rw [List.replicate_succ, List.foldl_cons, foldl_repS z n (a ++ z), List.replicate_succ, List.flatten_cons]
    apply Array.ext'
    simp
theorem repS_eq (z : Str) (n : Nat) : (⟨(List.replicate n z.cps).foldl (· ++ ·) #[]⟩ : Str) = repS z n := by
  rw [foldl_repS]
  unfold repS
  simp
theorem repS_one (z : Str) : repS z 1 = z := by
  unfold repS
  simp
theorem repS_len (z : Str) (n : Nat) : (repS z n).length = n * z.length := by
  show (List.replicate n z.cps.toList).flatten.toArray.size = n * z.cps.size
  rw [List.size_toArray, List.length_flatten, List.map_replicate, List.sum_replicate_nat, Array.length_toList]
theorem op_repS : OpR X (binaryOp .Mult) (fun x y H Q => ∃ (z : Str) (n : Int), x = .str z ∧ y = .int n ∧ 1 ≤ n ∧ n ≤ 1000 ∧ z.length ≤ 1000 ∧ Q (.str (repS z n.toNat)) H) := by
  intro pins s σ H x y v u Q I rx ry h
  obtain ⟨z, n, rfl, rfl, h1, h2, hz, q⟩ := h
  obtain ⟨t, rfl⟩ := rx
  obtain ⟨t', rfl⟩ := ry
  have hlen : z.length * n.toNat ≤ 1000000 := Nat.le_trans (Nat.mul_le_mul hz (show n.toNat ≤ 1000 by omega)) (by decide)
  refine PySem.P.mul_str ?_ (fun _ _ => ?_) (fun _ _ => ?_) ?_
  · rw [decide_eq_false (show ¬ n < -(2 ^ 63 : Int) by omega), decide_eq_false (show ¬ n ≥ 2 ^ 63 by omega)]
    rfl
  · have : (1000 : Int) ≤ (2 ^ 63 - 1) / n := by
      rw [Int.le_ediv_iff_mul_le (by omega)]
      omega
    omega
  · exact decide_eq_false (by
      have e : (1000000 : Nat) ≤ sizeLine := by decide
      omega)
  · rw [if_neg (show ¬ n < 1 by omega)]
    by_cases hc : (n == 1 || z.length == 0) = true
    · rw [if_pos hc]
      have e : repS z n.toNat = z := by
        rw [Bool.or_eq_true] at hc
        rcases hc with hc | hc
        · have : n = 1 := eq_of_beq hc
          subst this
          exact repS_one z
        · have h0 : z.cps.size = 0 := eq_of_beq hc
          have : z.cps = #[] := Array.eq_empty_of_size_eq_zero h0
          unfold repS
          rw [this]
          obtain ⟨a⟩ := z
          have : a = #[] := this
          subst this
          congr 1
          apply Array.ext'
          simp
      rw [e] at q
      exact ⟨.str z, H, I, ⟨_, rfl⟩, q⟩
    · rw [if_neg hc, repS_eq]
      refine ⟨?_, .str _, H, I.tok _, ⟨_, rfl⟩, q⟩
      show (repS z n.toNat).length ≤ sizeLine
      rw [repS_len, Nat.mul_comm]
      exact Nat.le_trans hlen (by decide)
end
/-! ### one sign in a text: its first place -/
theorem idxOf_le {c : Nat} : ∀ {xs : List Nat} {i : Nat}, xs[i]? = some c → xs.idxOf c ≤ i
  | [], i, h => by simp at h
  | x :: xs, i, h => by
    rw [List.idxOf_cons]
    by_cases e : x = c
    · subst e
      simp
    · cases i with
      | zero =>
        simp at h
        exact absurd h e
      | succ i =>
        have := idxOf_le (xs := xs) (i := i) (by simpa using h)
        rw [show (x == c) = false from beq_eq_false_iff_ne.mpr e]
        show xs.idxOf c + 1 ≤ i + 1
        omega
theorem occ_sign {z : Str} {c : Nat} (h : c ∈ z.cps.toList) : ∃ r, Builtin.Str.occurrences z ⟨#[c]⟩ 0 z.length 1 = z.cps.toList.idxOf c :: r := by
  have key : ∀ i, StrLaws.At z ⟨#[c]⟩ z.length i ↔ z.cps.toList[i]? = some c := fun i => StrLaws.subAt_one z c i
  have hi : z.cps.toList.idxOf c < z.cps.toList.length := List.idxOf_lt_length_iff.mpr h
  have e0 : z.cps.toList[z.cps.toList.idxOf c]? = some c := by
    rw [List.getElem?_eq_getElem hi, List.getElem_idxOf]
  rcases StrLaws.occ_head z ⟨#[c]⟩ 1 (Nat.le_refl _) with ⟨_, hn⟩ | ⟨i, r, e, ha, hn⟩
  · exact absurd ((key _).mpr e0) (hn _)
  · refine ⟨r, ?_⟩
    rw [e]
    congr 1
    have a1 : ¬ z.cps.toList.idxOf c < i := fun q => hn _ q ((key _).mpr e0)
    have a2 := idxOf_le ((key i).mp ha)
    omega
theorem find_sign {z : Str} {c : Nat} (h : c ∈ z.cps.toList) : Txt.find z ⟨#[c]⟩ = (z.cps.toList.idxOf c : Nat) := by
  obtain ⟨r, e⟩ := occ_sign h
  unfold Txt.find
  rw [e]
/-! ### texts of signs -/
abbrev sg (c : Nat) : Str := ⟨#[c]⟩
abbrev vs_ (cs : List Nat) : List V := cs.map fun c => V.str (sg c)
theorem join_sg : ∀ cs : List Nat, Txt.join ⟨#[]⟩ (cs.map sg) = ⟨cs.toArray⟩ := fun cs => by
  rw [TL.join_eq]
  induction cs with
  | nil => rfl
  | cons c r ih =>
    cases r with
    | nil => rfl
    | cons d r =>
      show sg c ++ ⟨#[]⟩ ++ Str.join ⟨#[]⟩ ((d :: r).map sg) = _
      rw [ih]
      show (⟨(#[c] ++ #[]) ++ (d :: r).toArray⟩ : Str) = ⟨(c :: d :: r).toArray⟩
      congr 1
      apply Array.ext'
      simp
theorem risingS_sg : ∀ (cs : List Nat) (c : Nat), risingS (sg c) (cs.map sg) = true → (c :: cs).Pairwise (· ≤ ·)
  | [], c, _ => by simp
  | d :: r, c, h => by
    have h : (!ltCps [d] [c] && risingS (sg d) (r.map sg)) = true := h
    rw [Bool.and_eq_true] at h
    have ih := risingS_sg r d h.2
    have hcd : c ≤ d := by
      have := h.1
      simp [ltCps] at this
      exact this
    refine List.Pairwise.cons (fun x hx => ?_) ih
    rcases List.mem_cons.mp hx with rfl | hx
    · exact hcd
    · exact Nat.le_trans hcd (List.rel_of_pairwise_cons ih hx)
theorem sortedS_sg {cs : List Nat} (h : sortedS (cs.map sg) = true) : cs.Pairwise (· ≤ ·) := by
  cases cs with
  | nil => simp
  | cons c r => exact risingS_sg r c h
/-- what a sort of one-sign texts gives -/
theorem perm_sg {cs : List Nat} {ys : List Str} (h : ys.Perm (cs.map sg)) : ∃ ds : List Nat, ys = ds.map sg ∧ ds.Perm cs := by
  let f : Str → Nat := fun z => z.cps.getD 0 0
  have hm := h.map f
  rw [List.map_map, show f ∘ sg = id from rfl, List.map_id] at hm
  refine ⟨ys.map f, ?_, hm⟩
  rw [List.map_map]
  have : ∀ y ∈ ys, (sg ∘ f) y = y := fun y hy => by
    obtain ⟨c, _, rfl⟩ := List.mem_map.mp (h.mem_iff.mp hy)
    rfl
  conv => lhs; rw [← List.map_id ys]
  exact List.map_congr_left fun y hy => (this y hy).symm
structure IsLet (z : Str) : Prop where
  one : 1 ≤ z.length
  five : z.length ≤ 5
  rise : z.cps.toList.Pairwise (· < ·)
  small : ∀ c ∈ z.cps.toList, 97 ≤ c ∧ c ≤ 122
theorem rise_of {cs : List Nat} (h : cs.Pairwise (· ≤ ·)) (n : cs.Nodup) : cs.Pairwise (· < ·) := by
  have := List.Pairwise.and h n
  exact this.imp fun ⟨a, b⟩ => Nat.lt_of_le_of_ne a b
theorem mem_az {c : Nat} (h : c ∈ (List.range 26).map (97 + ·)) : 97 ≤ c ∧ c ≤ 122 := by
  obtain ⟨k, hk, rfl⟩ := List.mem_map.mp h
  have := List.mem_range.mp hk
  omega
theorem cutV_map {f : Nat → V} (cs : List Nat) (lo hi : Option Int) : cutV (cs.map f) lo hi = ((cs.drop (HT.sIx cs.length 0 lo)).take (HT.sIx cs.length cs.length hi - HT.sIx cs.length 0 lo)).map f := by
  unfold cutV
  rw [List.length_map, List.map_take, List.map_drop]
theorem cut_from (cs : List Nat) (g : Nat) : (cs.drop (HT.sIx cs.length 0 (some (g : Int)))).take (HT.sIx cs.length cs.length none - HT.sIx cs.length 0 (some (g : Int))) = cs.drop g := by
  rw [HT.sIx_nat, HT.sIx_none]
  by_cases h : g ≤ cs.length
  · rw [Nat.min_eq_left h, List.take_of_length_le (by rw [List.length_drop] <;> omega)]
  · rw [Nat.min_eq_right (by omega), List.drop_of_length_le (by omega), List.drop_of_length_le (by omega), List.take_nil]
theorem cut_to (cs : List Nat) (g : Nat) : (cs.drop (HT.sIx cs.length 0 none)).take (HT.sIx cs.length cs.length (some (g : Int)) - HT.sIx cs.length 0 none) = cs.take g := by
  rw [HT.sIx_nat, HT.sIx_none, Nat.sub_zero, List.drop_zero]
  by_cases h : g ≤ cs.length
  · rw [Nat.min_eq_left h]
  · rw [Nat.min_eq_right (by omega), List.take_of_length_le (Nat.le_refl _), List.take_of_length_le (by omega)]
theorem seqIx {i : Int} {n : Nat} (h0 : 0 ≤ i) (h1 : i < n) : seqIndex? i n = some i.toNat := by
  unfold seqIndex?
  have e : ¬ i < 0 := by omega
  simp [h0, h1, e]
theorem atI_of {xs : List V} {i : Int} {v : V} (h0 : 0 ≤ i) (h : xs[i.toNat]? = some v) : atI xs i = some v := at_of (j := i.toNat) (by omega) h
theorem erase_perm (ls : List Nat) (k : Nat) (h : k < ls.length) : ls.Perm (ls[k] :: ls.eraseIdx k) := by
  rw [List.eraseIdx_eq_take_drop_succ]
  conv => lhs; rw [← List.take_append_drop k ls, List.drop_eq_getElem_cons h]
  exact List.perm_middle
theorem sgns_az : sgns "abcdefghijklmnopqrstuvwxyz" = vs_ ((List.range 26).map (97 + ·)) := by decide +kernel
/-! ### the rules that speak of the written part, by a K of their own (so that they may stand within a comprehension) -/
section
variable {X : Cx} (K : PySem.W.Frag) (hK : X.K = K)
def rLenK : List V → Hp → VK → Prop := fun xs H Q => ∃ p ys, xs = [.ref p] ∧ (SqL K H p ys ∨ SqT K H p ys) ∧ Q (.int ys.length) H
def rListK : List V → Hp → VK → Prop := fun xs H Q => ∃ p ys, xs = [.ref p] ∧ (SqL K H p ys ∨ SqT K H p ys) ∧ ∀ l, H l = none → Q (.ref l) (upd H l (.lst ys))
def rTupleK : List V → Hp → VK → Prop := fun xs H Q => ∃ p ys, xs = [.ref p] ∧ ((SqL K H p ys ∧ ∀ l, H l = none → Q (.ref l) (upd H l (.tup ys))) ∨ (SqT K H p ys ∧ Q (.ref p) H))
def rJoinK : V → List V → Hp → VK → Prop := fun x xs H Q => ∃ a p, ∃ ys : List Str, x = .str a ∧ xs = [.ref p] ∧ (SqL K H p (ys.map V.str) ∨ SqT K H p (ys.map V.str)) ∧ (ys.map (·.length)).sum + ys.length * a.length ≤ 16777216 ∧ Q (.str (Txt.join a ys)) H
include hK
theorem ix_listK : IxR X (rIxL K) := by subst hK; exact ix_list
theorem ix_tupK : IxR X (rIxT K) := by subst hK; exact ix_tup
theorem sl_listK : SlR X (rSlL K) := by subst hK; exact sl_list
theorem sl_tupK : SlR X (rSlT K) := by subst hK; exact sl_tup
theorem op_in_seqK : OpR X (compareOp .In) (rIn K false) := by subst hK; exact op_in_seq
theorem op_notIn_seqK : OpR X (compareOp .NotIn) (rIn K true) := by subst hK; exact op_notIn_seq
theorem call_lenK : CallR X (.builtin "len") (rLenK K) := by subst hK; exact call_len_seq
theorem call_listK : CallR X (.type "list") (rListK K) := by subst hK; exact call_list_of
theorem call_tupleK : CallR X (.type "tuple") (rTupleK K) := by subst hK; exact call_tuple_of
theorem cr_sumK (hc : X.calm = true) : CallR X (.builtin "sum") (rSum K) := by subst hK; exact cr_sum hc
theorem cr_anyK (hc : X.calm = true) : CallR X (.builtin "any") (rAny K) := by subst hK; exact cr_any hc
theorem cr_allK (hc : X.calm = true) : CallR X (.builtin "all") (rAll K) := by subst hK; exact cr_all hc
theorem cr_sortedK : CallR X (.builtin "sorted") (rSorted K) := by subst hK; exact cr_sorted
theorem cr_sortedSK : CallR X (.builtin "sorted") (rSortedS K) := by subst hK; exact cr_sortedS
theorem call_isiK : CallR X (.builtin "isinstance") (rIsi K) := by subst hK; exact call_isi
theorem mt_joinK : MtR X "str.join" (rJoinK K) := by subst hK; exact mt_join
theorem pi_listK {tg l : Expr} {tl : TE} (hl : PE X l tl) : PI X tg l (iList K tl) := by subst hK; exact pi_list hl
theorem pi_tupK {tg l : Expr} {tl : TE} (hl : PE X l tl) : PI X tg l (iTup K tl) := by subst hK; exact pi_tup hl
theorem pe_revLK {e : Expr} {te : TE} {k : Nat} {p1 p2 p3 pos : Pos} (he : PE X e te) : PE X (.Subscript e (.Slice none none (some (.UnaryOp .USub (.Constant (.int 1) k p1) p2)) p3) pos) (tRevL K te) := by subst hK; exact pe_revL he
theorem pg_tupK {pos : Pos} {es : List Expr} {k : Nat} {t : TGs} {n : Nat} (hc : X.calm = true) (h : PGs X es t) (hn : (assignEach es X.env).length = n := by rfl) (hst : (assignEach es X.env).findIdx? (·.1) = none := by rfl) : PG X (.Tuple es k pos) (gTup K n t) := by subst hK; exact pg_tup hc h hn hst
theorem pe_bm0K {o : Expr} {to : TE} {name : Str} {ap cp : Pos} {T id : String} {r : V → List V → Hp → VK → Prop} (pa : PlainAttrs T) (sl : Slot T name id) (ty : typeOf (.builtin id) = pure (.type "method_descriptor")) (hm : MtR X id r) (ho : PE X o to) (h1 : attributeBase o name X.env (eval o X.env) = eval o X.env := by rfl) (h2 : (ap.endLine == cp.line) = true := by rfl) : PE X (.Call (.Attribute o name ap) [] [] cp) (tBM0 K T r to) := by subst hK; exact pe_bm0 pa sl ty hm ho h1 h2
theorem pe_bmK {o e : Expr} {es : List Expr} {to : TE} {t : TA} {name : Str} {ap cp : Pos} {T id : String} {r : V → List V → Hp → VK → Prop} (pa : PlainAttrs T) (sl : Slot T name id) (ty : typeOf (.builtin id) = pure (.type "method_descriptor")) (hm : MtR X id r) (ho : PE X o to) (ha : PA X (e :: es) t) (h1 : attributeBase o name X.env (eval o X.env) = eval o X.env := by rfl) (h2 : ((backTo cp (starEach (e :: es) X.env)).all (fun x => !x.1) && (backToKw cp (keywordEach [] X.env)).all (fun x => x.1.isSome) && decide ((e :: es).length + ([] : List Keyword).length + (if ([] : List Keyword).isEmpty then 0 else 1) < 30)) = true := by rfl) (h3 : (ap.endLine == cp.line) = true := by rfl) (h4 : starEach (e :: es) X.env = (false, eval e X.env) :: starEach es X.env := by rfl) (h5 : (backTo cp (starEach es X.env)).any (·.1) = false := by rfl) : PE X (.Call (.Attribute o name ap) (e :: es) [] cp) (tBM K T r to t) := by subst hK; exact pe_bm pa sl ty hm ho ha h1 h2 h3 h4 h5
end
/-- a comprehension's turn without a test -/
theorem lcyes {σ : L2.St} {H : Hp} {A B : Hp → Prop} (h : A H) : tYes σ H (fun b H3 => if b = true then A H3 else B H3) := by
  show (if true = true then A H else B H)
  rw [if_pos rfl]
  exact h
theorem vs_snoc (ys : List Nat) (c : Nat) : vs_ ys ++ [V.str (sg c)] = vs_ (ys ++ [c]) := by
  show _ = List.map _ (ys ++ [c])
  rw [List.map_append]
  rfl
theorem vs_erase : ∀ (ls : List Nat) (k : Nat), (vs_ ls).eraseIdx k = vs_ (ls.eraseIdx k)
  | [], _ => rfl
  | _ :: _, 0 => rfl
  | c :: r, k + 1 => by
    show V.str (sg c) :: (vs_ r).eraseIdx k = V.str (sg c) :: vs_ (r.eraseIdx k)
    rw [vs_erase r k]
end LH

namespace LH
open PySem PySem.Spec PyProof.Rows L2
/-! ### sets of texts: set(list), sorted(set) -/
/-- at a stands a set whose members are just the texts l, each once -/
def TSet (P : Program) (w : World) (a : Addr) (l : List Str) (h : Heap) : Prop :=
  l.Nodup ∧ ∃ D : Froz.SD, h.get? a = some (Froz.sObj "set" D) ∧ Froz.TxOk P w D l ∧ Ris D.2.2.place.toList ∧ (w.params.followText "set-order" = true ∨ D.2.2.led = true)
theorem TSet.at {P : Program} {w : World} {a : Addr} {l : List Str} {h h' : Heap} (T : TSet P w a l h) (k : ∀ o, h.get? a = some o → h'.get? a = some o) : TSet P w a l h' :=
  let ⟨n, D, e, r⟩ := T
  ⟨n, D, k _ e, r⟩
theorem tx_ris (x : Int) (v : Value) (D : Froz.SD) (r : Ris D.2.2.place.toList) : Ris (Froz.addTx x v D).2.2.place.toList ∧ (Froz.addTx x v D).2.2.led = D.2.2.led := by
  have r1 := layNew_ris D.2.2 D.1 x v r
  have l1 := layNew_led D.2.2 D.1 x v
  unfold Froz.addTx
  generalize layNew D.2.2 D.1 x v = Z at r1 l1 ⊢
  obtain ⟨es1, t1, wd, gv⟩ := Z
  dsimp only at r1 l1 ⊢
  have r2 : Ris (if t1.plain = true then { t1 with plain := false } else t1 : SetTable).place.toList ∧ (if t1.plain = true then { t1 with plain := false } else t1 : SetTable).led = D.2.2.led := by
    split
    · exact ⟨r1, l1⟩
    · exact ⟨r1, l1⟩
  generalize (if t1.plain = true then { t1 with plain := false } else t1 : SetTable) = t2 at r2 ⊢
  unfold Froz.tailTx
  split
  · exact ⟨relayAll_ris _ _ _, (relayAll_led _ _ _).trans r2.2⟩
  · exact r2
section
variable {P : Program} {w : World} {A : Around} {E : Value → Shared → Prop} {s : Shared}
/-- the add of a text that is in -/
theorem tx_old {a : Addr} {T : String} {D : Froz.SD} {l : List Str} {k : Str} {u : Tok} {Q : Bool → Shared → Prop} (ho : s.heap.get? a = some (Froz.sObj T D)) (F : Froz.TxOk P w D l) (hk : k ∈ l) (hb : l.length < scanBound) (h : Q false s) :
    wpAny (model P w) A (setAddHashed a (.str k u) (hashStr w k)) Q E s := by
  have hkey : (PySem.strKind P w).is k (.str k u) = true := Froz.is_str k u
  have hd : (Froz.sObj T D).data = .set D.1 D.2.1 D.2.2 := rfl
  have hsz : D.1.size < scanBound := by rw [F.sz]; exact hb
  obtain ⟨e, he, hm⟩ := (F.mem k).mp hk
  unfold setAddHashed setAddHashedIn
  refine wpAny_holding (wpAny_bind (wpAny_setState_of ho hd F.fit ?_))
  dsimp only
  rw [byScan_of (knd := PySem.strKind P w) rfl hsz F.el]
  simp only [↓reduceIte]
  unfold setAddByScan
  refine wpAny_bind (wpAny_bind (wpAny_rule (wpAny_bind (wpAny_setScan_of (knd := PySem.strKind P w) (k := k) hkey ho hd F.fit F.el ?_))))
  cases hf : List.findIdx? (fun e => (PySem.strKind P w).is k e.2) D.1.toList with
  | none =>
    have c := List.findIdx?_eq_none_iff.mp hf e he
    rw [hm] at c
    cases c
  | some j => exact wpAny_pure (wpAny_pure h)
/-- the members behind one more -/
def tAdd (l : List Str) (k : Str) : List Str := if k ∈ l then l else k :: l
theorem mem_tAdd {l : List Str} {k x : Str} : x ∈ tAdd l k ↔ x ∈ l ∨ x = k := by
  unfold tAdd
  split
  · rename_i h
    exact ⟨.inl, fun z => z.elim id fun e => e ▸ h⟩
  · rw [List.mem_cons]
    exact Or.comm
theorem tAdd_len (l : List Str) (k : Str) : (tAdd l k).length ≤ l.length + 1 := by
  unfold tAdd
  split
  · omega
  · exact Nat.le_refl _
theorem tx_add {a : Addr} {l : List Str} {k : Str} {u : Tok} {Q : Bool → Shared → Prop} (T : TSet P w a l s.heap) (hb : l.length + 1 < scanBound)
    (h : ∀ (b : Bool) (h' : Heap) (tk : Nat), s.toks ≤ tk → TSet P w a (tAdd l k) h' → (∀ c o, c ≠ a → s.heap.get? c = some o → h'.get? c = some o) → Q b { s with heap := h', toks := tk }) : wpAny (model P w) A (setAdd a (.str k u)) Q E s := by
  obtain ⟨nd, D, ho, F, r, hl⟩ := T
  unfold setAdd
  refine wpAny_holding (wpAny_bind ((PySem.strKind P w).pyHash (k := k) (Froz.is_str _ _) ?_))
  by_cases hk : k ∈ l
  · have e : tAdd l k = l := if_pos hk
    refine tx_old (s := { s with toks := s.toks + 1 }) (l := l) (D := D) ho F hk (by omega) ?_
    exact h false s.heap (s.toks + 1) (Nat.le_succ _) (by rw [e]; exact ⟨nd, D, ho, F, r, hl⟩) fun _ _ _ q => q
  · have e : tAdd l k = k :: l := if_neg hk
    refine Froz.add_x (s := { s with toks := s.toks + 1 }) (l := l) (D := D) ho F hk hb ?_
    obtain ⟨r1, l1⟩ := tx_ris (hashStr w k) (.str k u) D r
    refine h true _ (s.toks + 1) (Nat.le_succ _) ?_ fun c o hc q => Heap.get?_update_of_ne _ (Ne.symm hc) q
    rw [e]
    exact ⟨List.nodup_cons.mpr ⟨hk, nd⟩, _, Froz.get_upd _ ho rfl, Froz.add_ok u F, r1, by rw [l1]; exact hl⟩
end
/-- the members, when the texts were put in one by one -/
def tAll (xs : List Str) : List Str := xs.foldl tAdd []
theorem mem_foldl_tAdd {x : Str} : ∀ (xs l : List Str), x ∈ xs.foldl tAdd l ↔ x ∈ l ∨ x ∈ xs
  | [], l => by simp
  | k :: r, l => by
    rw [List.foldl_cons, mem_foldl_tAdd r, mem_tAdd, List.mem_cons]
    constructor
    · rintro ((q | q) | q)
      · exact .inl q
      · exact .inr (.inl q)
      · exact .inr (.inr q)
    · rintro (q | q | q)
      · exact .inl (.inl q)
      · exact .inl (.inr q)
      · exact .inr q
theorem mem_tAll {x : Str} {xs : List Str} : x ∈ tAll xs ↔ x ∈ xs := by
  unfold tAll
  rw [mem_foldl_tAdd]
  simp
theorem len_foldl_tAdd : ∀ (xs l : List Str), (xs.foldl tAdd l).length ≤ l.length + xs.length
  | [], l => by simp
  | k :: r, l => by
    have a := len_foldl_tAdd r (tAdd l k)
    have b := tAdd_len l k
    rw [List.foldl_cons, List.length_cons]
    omega
theorem tAll_len (xs : List Str) : (tAll xs).length ≤ xs.length := by
  have := len_foldl_tAdd xs []
  rw [List.length_nil, Nat.zero_add] at this
  exact this
theorem tAll_snoc (xs : List Str) (k : Str) : tAll (xs ++ [k]) = tAdd (tAll xs) k := by
  unfold tAll
  rw [List.foldl_append]
  rfl
theorem foldl_tAdd_mono : ∀ (xs l : List Str), l.length ≤ (xs.foldl tAdd l).length
  | [], _ => Nat.le_refl _
  | k :: r, l => by
    have a := foldl_tAdd_mono r (tAdd l k)
    have b : l.length ≤ (tAdd l k).length := by
      unfold tAdd
      split
      · exact Nat.le_refl _
      · exact Nat.le_succ _
    rw [List.foldl_cons]
    omega
theorem tAll_take (xs : List Str) (i : Nat) : (tAll (xs.take i)).length ≤ (tAll xs).length := by
  have h : tAll xs = (xs.drop i).foldl tAdd (tAll (xs.take i)) := by
    conv => lhs; rw [← List.take_append_drop i xs]
    unfold tAll
    rw [List.foldl_append]
  rw [h]
  exact foldl_tAdd_mono _ _
section
variable {P : Program} {w : World} {A : Around} {R : Result → Shared → Prop} {I : Addr} {fp wr : List Addr} {G : Array GenState → Array GenState → Prop} {n : Nat} {Pv : Nat → Value → Prop} {St : Nat → Shared → Prop}
/-- the loop that puts what is walked into a set of texts -/
theorem tx_loop (W : WalksS P w A.in1 I fp wr G n Pv St) (S : Addr) (hS : S ∉ fp) (xs : List Str) (hn : xs.length = n) (hb : (tAll xs).length + 1 < scanBound) (hv : ∀ i v, Pv i v → ∃ x t, xs[i]? = some x ∧ v = .str x t) :
    ∀ (k i : Nat) (s : Shared), n - i = k → i ≤ n → St i s → TSet P w S (tAll (xs.take i)) s.heap → (∀ s', Moved (S :: wr) G s s' → TSet P w S (tAll xs) s'.heap → R (.ok (.ret .none)) s') →
      codeAny (model P w) A (.builtin "set.update.loop" ⟨[.ref S, .ref I], []⟩) R s := by
  have hw : S ∉ wr := fun z => hS (W.sub _ z)
  have up : ∀ b ∈ wr, b ∈ S :: wr := fun b z => List.mem_cons_of_mem _ z
  intro k
  induction k with
  | zero =>
    intro i s hk hi st T hR
    obtain rfl : i = n := by omega
    rw [List.take_of_length_le (Nat.le_of_eq hn)] at T
    refine codeAny_builtin PyProof.Rows.F.entry_set_update_loop ?_
    rw [Around.under_plainId PyProof.Rows.F.plain_set_update_loop _]
    show wpAny _ A.in1 (pyNext (.ref I) >>= _) _ _ s
    refine wpAny_bind (W.done s _ _ st fun s' m => ?_)
    exact wpAny_pure (hR s' (m.mono up) (T.at fun o q => m.heap S o hw q))
  | succ k ih =>
    intro i s hk hi st T hR
    have lt : i < n := by omega
    refine codeAny_builtin PyProof.Rows.F.entry_set_update_loop ?_
    rw [Around.under_plainId PyProof.Rows.F.plain_set_update_loop _]
    show wpAny _ A.in1 (pyNext (.ref I) >>= _) _ _ s
    refine wpAny_bind (W.item i s _ _ lt st fun v s1 hP st1 m1 => ?_)
    obtain ⟨x, t, ex, rfl⟩ := hv i v hP
    have T1 : TSet P w S (tAll (xs.take i)) s1.heap := T.at fun o q => m1.heap S o hw q
    have room : (tAll (xs.take i)).length + 1 < scanBound := by
      have a := tAll_take xs i
      omega
    show wpAny _ A.in1 (holding [Value.str x t] (setAdd S (.str x t)) >>= _) _ _ s1
    refine wpAny_bind (wpAny_holding (tx_add T1 room fun b h2 tk htk T2 k2 => ?_))
    have e : tAll (xs.take (i + 1)) = tAdd (tAll (xs.take i)) x := by
      rw [List.take_add_one, ex]
      exact tAll_snoc _ _
    rw [← e] at T2
    refine wpAny_pure ⟨plainId_quiet PyProof.Rows.F.plain_set_update_loop _, ih (i + 1) _ (by omega) lt (W.frame _ s1 _ _ st1 htk fun c hc o q => k2 c o (fun z => hS (z ▸ hc)) q) T2 fun s3 m3 T3 => ?_⟩
    exact hR s3 (Moved.trans W.gtrans ((m1.mono up).then_heap htk fun c o hc q => k2 c o (fun z => hc (z ▸ List.mem_cons_self)) q) m3) T3
end
end LH

namespace LH
open PySem PySem.Spec PyProof.Rows L2
/-- as many and the same members, of which one list has none twice -/
theorem perm_sub : ∀ (l m : List Str), l.Nodup → m.length = l.length → (∀ x ∈ l, x ∈ m) → m.Perm l
  | [], m, _, h, _ => by rw [List.length_eq_zero_iff.mp h]
  | x :: r, m, nd, h, hs => by
    obtain ⟨n1, n2⟩ := List.nodup_cons.mp nd
    have hx := hs x List.mem_cons_self
    refine (List.perm_cons_erase hx).trans (List.Perm.cons x (perm_sub r (m.erase x) n2 ?_ fun y hy => ?_))
    · rw [List.length_erase_of_mem hx, h]
      rfl
    · have hne : y ≠ x := fun e => n1 (e ▸ hy)
      exact (List.mem_erase_of_ne hne).mpr (hs y (List.mem_cons_of_mem _ hy))
theorem TSet.perm {l m : List Str} (nd : l.Nodup) (hl : m.length = l.length) (hm : ∀ x, x ∈ l ↔ x ∈ m) : m.Perm l := perm_sub l m nd hl fun x hx => (hm x).mp hx
/-- a new set -/
abbrev set0 (w : World) : Obj := { cls := .type "set", dict := none, data := .set #[] 0 (.fresh 0 0 (!w.params.followText "set-order")) }
section
variable {P : Program} {w : World} {A : Around} {E : Value → Shared → Prop} {s : Shared}
theorem set_made (a : Value) {Q₁ : Value → Shared → Prop} (h : Q₁ (.ref s.heap.objs.size) { s with heap := s.heap.push (set0 w) }) :
    codeAny (model P w) A (.call (.builtin "set.__new__") ⟨[.type "set", a], []⟩) (wants Q₁ E) s := by
  refine codeAny_of_tree ?_
  show wpAny _ A.in1 (checkBuiltinCall "set.__new__" ⟨[.type "set", a], []⟩ >>= fun _ => again (.builtin "set.__new__" ⟨[.type "set", a], []⟩)) _ _ s
  refine wpAny_bind (wpAny_of_eq (PySem.F.newCall_set_1 a) (wpAny_pure ⟨plainId_quiet PySem.F.plain_set_new _, codeAny_builtin PySem.F.entry_set_new ?_⟩))
  rw [Around.under_plainId PySem.F.plain_set_new _]
  unfold Builtin.«set.__new__» Builtin.Frozenset.newClass
  have sb := sub_set_self
  obtain ⟨hp, g, d, tk, os⟩ := s
  dsimp only
  wp_walk
  refine wpAny_askSetting (wpAny_pure ?_)
  dsimp only
  simp only [newObj]
  exact wpAny_bind (wpAny_alloc (wpAny_pure (wpAny_pure h)))
theorem tset_new {h h' : Heap} (e : h'.get? h.objs.size = some (set0 w)) : TSet P w h.objs.size [] h' :=
  ⟨List.nodup_nil, (#[], 0, .fresh 0 0 (!w.params.followText "set-order")), e, Froz.TxOk.nil (by rfl), List.Pairwise.nil, by
    show _ ∨ (!w.params.followText "set-order") = true
    cases w.params.followText "set-order"
    · exact .inr rfl
    · exact .inl rfl⟩
set_option maxHeartbeats 4000000 in
/-- set(xs) of a list of texts -/
theorem call_setT {l : Addr} {items : Array Value} {xs : List Str} {Q : Value → Shared → Prop} (hh : A.handled = none) (hl : s.heap.IsList l items) (hi : StrsAre items.toList xs) (hb : (tAll xs).length + 1 < scanBound)
    (h : ∀ (h' : Heap) (tk : Nat), TSet P w s.heap.objs.size (tAll xs) h' → (∀ b o, b < s.heap.objs.size → s.heap.get? b = some o → h'.get? b = some o) → Q (.ref s.heap.objs.size) { s with heap := h', toks := tk }) :
    wpAny (model P w) A (call (.type "set") [.ref l]) Q E s := by
  obtain ⟨c, tl, hmro⟩ := PySem.F.called_set.mro
  have hmade := PySem.F.called_set.made
  have hsub := PySem.F.called_set.sub
  refine wpAny_call (codeAny_of_tree ?_)
  show wpAny _ _ (callAny (.type "set") _) _ _ _
  refine wpAny_pure ⟨Code.quiet_builtin _ (by decide +kernel), codeAny_builtin PySem.F.entry_type_call ?_⟩
  rw [Around.under_plain (weight_type_call_type "set" [.ref l] []) rfl]
  have h1 := PySem.F.called_set.notType
  have h2 := PySem.F.called_set.canCreate
  have hct := PySem.F.typeCall_set_1 (.ref l)
  repeat (any_goals (first | assumption | wp_step))
  refine codeAny_mono (set_made (.ref l) (E := E) (Q₁ := fun obj s₁ => obj = .ref s.heap.objs.size ∧ s₁ = { s with heap := s.heap.push (set0 w) }) ⟨rfl, rfl⟩) fun r s₁ hr => ?_
  cases r with
  | error e => exact hr
  | ok fl =>
    cases fl with
    | ret obj =>
      obtain ⟨rfl, rfl⟩ := hr
      have hS : (s.heap.push (set0 w)).get? s.heap.objs.size = some (set0 w) := Heap.get?_push_size _ rfl
      have hT : Shared.TypeIs { s with heap := s.heap.push (set0 w) } (.ref s.heap.objs.size) "set" := ⟨_, hS, rfl⟩
      have hli := PySem.F.called_set.init.lookup
      have hbi := PySem.F.called_set.init.bind (.ref s.heap.objs.size)
      repeat (any_goals (first | assumption | wp_step))
      refine codeAny_mono (codeAny_call_builtin (R := wants (fun r s₂ => r = .none ∧ ∃ h' tk, s₂ = { s with heap := h', toks := tk } ∧ TSet P w s.heap.objs.size (tAll xs) h' ∧
          (∀ b o, b < s.heap.objs.size → s.heap.get? b = some o → h'.get? b = some o)) E) PySem.F.called_set.init.plain PySem.F.entry_set_init (check_set_init_1 hT ?_)) fun r₂ s₂ hr₂ => ?_
      · obtain ⟨ol, hol, hcl, nl, hdl⟩ := hl
        obtain ⟨ocls, odict, odata, oslots⟩ := ol
        simp only at hcl hdl
        subst hcl
        subst hdl
        have hol' : (s.heap.push (set0 w)).get? l = some { cls := .type "list", dict := odict, data := .seq items nl, slots := oslots } := Heap.get?_push_of_some _ hol
        have hsls := PySem.F.sub_list_set
        have hslf := PySem.F.sub_list_frozenset
        have hne : (Value.type "list" == Value.type "dict") = false := by decide
        have hl1 : (s.heap.push (set0 w)).IsList l items := ⟨_, hol', rfl, nl, rfl⟩
        unfold Builtin.«set.__init__» noKeywords Builtin.Frozenset.updateFrom
        generalize hPI : pyIter = PI
        wp_walk
        subst hPI
        refine wpAny_pyIter_list hl1 (wpAny_bind (wpAny_runValue ?_))
        have lS : l < s.heap.objs.size := Heap.lt_size hol
        have eS : (s.heap.push (set0 w)).objs.size = s.heap.objs.size + 1 := Heap.size_push ..
        have neI : l ≠ (s.heap.push (set0 w)).objs.size := by
          rw [eS]
          exact Nat.ne_of_lt (Nat.lt_succ_of_lt lS)
        have out : s.heap.objs.size ∉ [(s.heap.push (set0 w)).objs.size, l] := fun z => by
          rcases List.mem_cons.mp z with z | z
          · rw [eS] at z
            exact absurd z (Nat.ne_of_lt (Nat.lt_succ_self _))
          · exact absurd (List.mem_singleton.mp z) (Nat.ne_of_gt lS)
        have hsz : xs.length = items.size := by rw [← StrsAre.len_eq hi, Array.length_toList]
        have hv : ∀ (i : Nat) (v : Value), items[i]? = some v → ∃ x t, xs[i]? = some x ∧ v = .str x t := fun i v q => by
          have hil : i < xs.length := by
            rw [hsz]
            exact (Array.getElem?_eq_some_iff.mp q).1
          obtain ⟨t, e⟩ := SS.strs_at hi i v (by rw [Array.getElem?_toList]; exact q)
          refine ⟨_, t, ?_, e⟩
          rw [List.getD_eq_getElem?_getD, List.getElem?_eq_getElem hil]
          rfl
        refine tx_loop ((Walks.list (by show A.in1.in1.in1.handled = none; simp [hh]) _ l neI items).toS) s.heap.objs.size out xs hsz hb hv items.size 0 _ (by omega) (Nat.zero_le _) ⟨⟨_, Heap.get?_push_size _ rfl, rfl, rfl⟩, hl1.push _⟩ ?tx1 ?tx2
        case tx1 => exact tset_new (h := s.heap) (Heap.get?_push_of_some _ hS)
        case tx2 =>
          intro s' m T
          obtain ⟨h', g', d', tk', os'⟩ := s'
          obtain rfl : g' = s.gens := m.gens
          obtain rfl : d' = s.drawn := m.drawn
          obtain rfl : os' = s.os := m.os
          refine wpAny_pure (wpAny_pure ⟨rfl, h', tk', rfl, T, fun b o q e => ?_⟩)
          refine m.heap b o (fun z => ?_) (Heap.get?_push_of_some _ (Heap.get?_push_of_some _ e))
          rcases List.mem_cons.mp z with z | z
          · exact absurd z (Nat.ne_of_lt q)
          · have z := List.mem_singleton.mp z
            rw [eS] at z
            exact absurd z (Nat.ne_of_lt (Nat.lt_succ_of_lt q))
      · cases r₂ with
        | error e => exact hr₂
        | ok fl₂ =>
          cases fl₂ with
          | ret r =>
            obtain ⟨rfl, h', tk, rfl, T, hk⟩ := hr₂
            repeat (any_goals (first | assumption | wp_step))
            exact h _ _ T hk
          | _ => exact hr₂.elim
    | _ => exact hr.elim
/-- sorted(found) of a set of texts -/
theorem call_sortedT {a : Addr} {l : List Str} {Q : Value → Shared → Prop} (T : TSet P w a l s.heap) (hh : A.handled = none) (hb : l.length < scanBound)
    (hQ : ∀ s' p (out : Array Value) (c : Nat) (ys : List Str), (∀ b o, s.heap.get? b = some o → s'.heap.get? b = some o) → s'.gens = s.gens → s'.os = s.os → s.heap.objs.size ≤ p →
      s'.heap.get? p = some (seqObj "list" out c) → StrsAre out.toList ys → ys.Perm l → sortedS ys = true → Q (.ref p) s') :
    wpAny (model P w) A (call (.builtin "sorted") [.ref a]) Q E s := by
  obtain ⟨nd, D, ho, F, r, hl⟩ := T
  have hsz : D.1.size < scanBound := by rw [F.sz]; exact hb
  refine Calls.call_function_entry kind_sorted plain_sorted entry_sorted (args_sorted1 _) ?_
  unfold Builtin.«sorted»
  refine wpAny_bind (m := checkCount "sorted" 1 1 _) (wpAny_pure ?_)
  refine wpAny_bind (collect_set (A := A.in1) (es := D.1) (ep := D.2.1) (t := D.2.2) hh ⟨_, ho, rfl, rfl⟩ F.fit hsz r hl fun s1 vs k1 hz g1 o1 pm => ?_)
  have all : ∀ v ∈ vs, ∃ x t, v = Value.str x t := fun v hv => by
    obtain ⟨e, he, rfl⟩ := List.mem_map.mp (pm.mem_iff.mp hv)
    obtain ⟨⟨k, hk, _⟩, _⟩ := F.el e he
    have hk : Value.isStrOf k e.2 = true := hk
    cases q : e.2 with
    | str x t => exact ⟨x, t, rfl⟩
    | _ =>
      rw [q] at hk
      cases hk
  have hS : StrsAre vs (vs.map strOf) := strsAre_map vs all
  have hvl : vs.length ≤ sizeLine := by
    rw [pm.length_eq, List.length_map, Array.length_toList]
    exact fits_of_scanBound hsz
  refine wpAny_bind (wpAny_newList ?_ hvl)
  have hoL : (s1.heap.push (seqObj "list" vs.toArray 0)).get? s1.heap.objs.size = some (seqObj "list" vs.toArray 0) := Heap.get?_push_size _ rfl
  refine wpAny_bind (wpAny_holding (wpAny_call_entry slot_list_sort ⟨_, hoL, rfl⟩ entry_list_sort (list_sort_treeKAny strKind_oneLt hoL hS.keysOf (fun v₁ v₂ rest e => keyKind_strs (by rw [← e]; exact hS)) hvl fun st' hp hs => ⟨_, rfl, ?_⟩) (args_list_sort _)))
  obtain ⟨ys, a1, a2, a3⟩ := sorted_out_str hS hp hs
  obtain ⟨c, hc⟩ := sortedHeap_at (vs := vs) (out := (arrOf st').map (·.2)) hoL
  refine wpAny_pure ⟨_, rfl, hQ _ s1.heap.objs.size _ c ys (fun b u e => ?_) g1 o1 hz hc a1 (a2.trans ?_) a3⟩
  · have q := k1 b u e
    have hlt := Heap.lt_size q
    refine (sortedHeap_old (Nat.ne_of_lt hlt) ?_).trans (Heap.get?_push_of_some _ q)
    exact Nat.lt_of_lt_of_eq (Nat.lt_succ_of_lt hlt) (size_push' ..).symm
  · -- the texts of the entries are just l
    have p1 : (vs.map strOf).Perm (D.1.toList.map fun e => strOf e.2) := by
      have q := pm.map strOf
      rw [List.map_map] at q
      exact q
    have key : ∀ e ∈ D.1.toList, ∀ k : Str, (PySem.strKind P w).is k e.2 = true ↔ strOf e.2 = k := fun e he k => by
      obtain ⟨⟨k0, hk0, _⟩, _⟩ := F.el e he
      have e0 : strOf e.2 = k0 := by
        have hk0 : Value.isStrOf k0 e.2 = true := hk0
        cases q : e.2 with
        | str x t =>
          rw [q] at hk0
          have : (x == k0) = true := by simpa [Value.isStrOf] using hk0
          exact eq_of_beq this
        | _ =>
          rw [q] at hk0
          cases hk0
      constructor
      · intro hk
        rw [e0]
        exact (PySem.strKind P w).inj e.2 k0 k hk0 hk
      · intro hk
        rw [← hk, e0]
        exact hk0
    refine p1.trans (TSet.perm nd ?_ fun x => ?_)
    · rw [List.length_map, Array.length_toList]
      exact F.sz
    · rw [F.mem x, List.mem_map]
      constructor
      · rintro ⟨e, he, q⟩
        exact ⟨e, he, (key e he x).mp q⟩
      · rintro ⟨e, he, q⟩
        exact ⟨e, he, (key e he x).mpr q⟩
end
end LH

namespace LH
open PySem PySem.Spec PyProof.Rows L2
/-- an expression that changes nothing, by its value -/
def tPure (t : TE) : TE := fun σ H Q => ∃ v, t σ H (fun x H' => x = v ∧ H' = H) ∧ Q v H
theorem pe_pure {X : Cx} {e : Expr} {t : TE} (h : PE X e t) : PE X e (tPure t) := by
  refine ⟨fun pins s σ H Q I q => ?_⟩
  obtain ⟨v, h1, h2⟩ := q
  refine thn (h.run pins s σ H _ I h1) fun u s1 ⟨x, H1, I1, r, e1, e2⟩ => ?_
  subst e1
  subst e2
  exact ⟨x, H1, I1, r, h2⟩
/-! ### a new pair at each turn -/
def Itp (n : Nat) (xs ys : Nat → Option V) : It := ⟨fun i _ => i < n, YPair xs ys, fun i _ => i = n⟩
theorem walk_Itp {n : Nat} {xs ys : Nat → Option V} : Walk (Itp n xs ys) n (fun _ => True) (YPair xs ys) := ⟨fun _ _ h _ => h, fun _ _ => rfl, fun _ _ _ _ _ _ y => y⟩
/-- a walk that hands out pairs of its own, as a turn -/
theorem turn_T {P : Program} {w : World} {K : PySem.W.Frag} {elts : List Expr} {kk n : Nat} {tpos : Pos} {xs ys : Nat → Option V} {it : Addr} {fp wr : List Addr} {Pt : Nat → Array Value → Prop} {St : Nat → Heap → Prop} {Mid : Nat → Addr → Heap → Prop}
    (W : ∀ A : Around, A.handled = none → WalksT P w A it fp wr n Pt St Mid) (hit : it ∈ fp) (ob : ∀ i h, St i h → ∀ b ∈ fp, ∃ o, h.get? b = some o ∧ ∀ v, o.data ≠ .cell v)
    (hp : ∀ i vals, Pt i vals → ∃ x y u v, vals = #[u, v] ∧ xs i = some x ∧ ys i = some y ∧ RelV x u ∧ RelV y v)
    (sf : ∀ (A : Around) (i : Nat) (s : Shared) (Q : Value → Shared → Prop) (E : Value → Shared → Prop), St i s.heap → Q (.ref it) s → wpAny (model P w) A (pyIter (.ref it)) Q E s) :
    Turn P w K (.Tuple elts kk tpos) (Itp n xs ys) fp it St where
  mem := hit
  obj := ob
  keep := fun i h h' st k => (W {} rfl).frame i h h' st k
  item := by
    intro X hP hw hK hc i pins s σ H E I hf st hg
    subst hP hw hK
    have W0 := W X.A (I.ok.hd hc)
    refine W0.item i s _ _ hg st fun T vals h1 tk hv hT tup mid k1 => ?_
    obtain ⟨x, y, u, v, rfl, ex, ey, rx, ry⟩ := hp i vals hv
    refine ⟨_, rfl, W0.go elts kk tpos i T _ _ _ mid fun h2 st2 k2 => ?_⟩
    have tup2 : h2.IsTuple T #[u, v] := tup.at fun o q => k2 T o (W0.apart i T h1 mid) q
    have I1 : Inv X pins σ (upd H T (.tup [x, y])) { s with heap := h2, toks := tk } :=
      I.turnedNew (ch := wr) (fun b o hb q => k2 b o hb (k1 b o hb q)) (fun b hb => hf b (W0.sub b hb)) hT ⟨by show 2 ≤ sizeLine; decide, [u, v], .cons rx (.cons ry .nil), tup2⟩
    refine ⟨.ref T, _, I1, rfl, ⟨T, x, y, rfl, I.hok.fresh hT, rfl, ex, ey⟩, st2, fun b hb => ?_⟩
    obtain ⟨o, q, _⟩ := ob i s.heap st b hb
    rw [upd_ne (Nat.ne_of_lt (Nat.lt_of_lt_of_le (Heap.lt_size q) hT))]
    exact (hf b hb).1
  done := by
    intro X hP hw hK hc i pins s σ H E I hf st hg
    subst hP hw hK
    have W0 := W X.A (I.ok.hd hc)
    obtain rfl : i = n := hg
    exact W0.done s _ _ st fun h1 tk k1 => ⟨rfl, I.turnedL (ch := wr) (fun b o hb q => k1 b o hb q) fun b hb => hf b (W0.sub b hb)⟩
  self := sf
/-! ### enumerate(text) -/
def signAt (z : Str) (i : Nat) : Option V := (z.cps[i]?).map fun c => .str ⟨#[c]⟩
def iEnumS (ta : TA) : TI := fun σ H R => ta σ H fun vs H1 => ∃ z : Str, vs = [.str z] ∧ R (Itp z.cps.size (fun i => some (.int (i : Nat))) (signAt z)) H1
theorem pi_enumS {X : Cx} {e : Expr} {ta : TA} {p pos tpos : Pos} {elts : List Expr} {kk : Nat} (hg : Gl X "enumerate") (hm : X.mg "enumerate" = none) (ha : PA X [e] ta) (hs : starEach [e] X.env = [(false, eval e X.env)] := by rfl) :
    PI X (.Tuple elts kk tpos) (.Call (.Name "enumerate" p) [e] [] pos) (iEnumS ta) := by
  refine ⟨fun pins s σ H R I h => ?_⟩
  refine Call_ (ld_blt I hg hm boot_enumerate (PyProof.Rows.callWith_type1 (thn (ha.run pos pins s σ H _ I h) fun us s1 ⟨vs, H1, I1, r1, q1⟩ => ?_) hs rfl))
  obtain ⟨z, ex, q⟩ := q1
  subst ex
  obtain ⟨u, rfl, rx⟩ := vals1 r1
  obtain ⟨t, rfl⟩ := rx
  refine call_enumerate_str fun h1 he hi hsz k1 => wpAny_pyIter_enum he ?_
  have I2 : Inv X pins σ H1 { s1 with heap := h1 } := I1.kept (t' := s1.toks) k1
  have hne : s1.heap.objs.size + 1 ≠ s1.heap.objs.size := Nat.succ_ne_self _
  refine ⟨s1.heap.objs.size + 1, [s1.heap.objs.size + 1, s1.heap.objs.size], _, _, H1, rfl, I2,
    turn_T (St := fun i h => (∃ old, IsEnum h (s1.heap.objs.size + 1) s1.heap.objs.size i old) ∧ h.IsStrIter s1.heap.objs.size (strIterType z) z t i)
      (fun A hA => WalksT.enumerateD (Draws.text (A := A.in1) hA s1.heap.objs.size z t) (s1.heap.objs.size + 1) hne (by simp) (by simp)) (by simp) (fun i h st b hb => ?_) (fun i vals hv => ?_) (fun A i s Q E st hQ => ?_), ⟨⟨.none, he⟩, hi⟩, fun b hb => ?_, q⟩
  · obtain ⟨⟨old, e1⟩, ⟨o, e2, c2, d2⟩⟩ := st
    have e' : b = s1.heap.objs.size + 1 ∨ b = s1.heap.objs.size := by simpa using hb
    rcases e' with y | y
    · rw [y]
      exact ⟨_, e1, fun v q => nomatch q⟩
    · rw [y]
      exact ⟨o, e2, fun v q => by rw [d2] at q; cases q⟩
  · obtain ⟨t', x, ⟨c, u, hc, rfl⟩, rfl⟩ := hv
    refine ⟨.int (i : Nat), .str ⟨#[c]⟩, _, _, rfl, rfl, ?_, ⟨_, rfl⟩, ⟨_, rfl⟩⟩
    unfold signAt
    rw [hc]
    rfl
  · obtain ⟨⟨old, e1⟩, _⟩ := st
    exact wpAny_pyIter_enum e1 hQ
  · have e' : b = s1.heap.objs.size + 1 ∨ b = s1.heap.objs.size := by simpa using hb
    have hle : s1.heap.objs.size ≤ b := by
      rcases e' with y | y
      · rw [y]
        exact Nat.le_add_right _ _
      · rw [y]
        exact Nat.le_refl _
    exact I1.fpOk hle (I1.hok.fresh hle)
/-! ### the set rules -/
/-- the set of the texts l at a -/
def SetT (P : Program) (w : World) (a : Addr) (l : List Str) : HO := .ext (TSet P w a l)
section
variable {X : Cx}
theorem setT_new {P : Program} {w : World} {H : Hp} {h : Heap} {a : Addr} {l : List Str} (T : TSet P w a l h) : ObjOk P w H h a (SetT P w a l) := by
  have ⟨_, D, e, _⟩ := T
  exact ⟨T, ⟨_, e⟩, fun h1 h2 p k => p.at k⟩
/-- set(xs), texts; the set stays nowhere but here -/
def rSetL (P : Program) (w : World) (K : PySem.W.Frag) : List V → Hp → VK → Prop := fun xs H Q => ∃ (a : Addr) (ys : List Str), xs = [.ref a] ∧ SqL K H a (ys.map V.str) ∧ ys.length ≤ 4000 ∧ ∀ p, H p = none → Q (.ref p) (upd H p (SetT P w p (tAll ys)))
/-- .. of which few are unlike -/
def rSetM (P : Program) (w : World) (K : PySem.W.Frag) : List V → Hp → VK → Prop := fun xs H Q => ∃ (a : Addr) (ys : List Str), xs = [.ref a] ∧ SqL K H a (ys.map V.str) ∧ (tAll ys).length ≤ 4000 ∧ ∀ p, H p = none → Q (.ref p) (upd H p (SetT P w p (tAll ys)))
theorem cr_setM (hc : X.calm = true) : CallR X (.type "set") (rSetM X.prog X.w X.K) := by
  intro pins s σ H xs us Q I r h
  obtain ⟨a, ys, rfl, hs, hl, q⟩ := h
  obtain ⟨its, rv, pl, _⟩ := I.list hs
  rw [Vals.ref1 r]
  have hlen := rv.length
  rw [List.length_map] at hlen
  refine call_setT (I.ok.hd hc) pl.isList (by simpa using rv.strs) (by unfold scanBound; omega) fun h1 tk T k1 => ?_
  refine ⟨.ref s.heap.objs.size, _, I.laid (t' := tk) (fun b o e => k1 b o (Heap.lt_size e) e) (Nat.le_refl _) (setT_new T), rfl, q _ (I.hok.fresh (Nat.le_refl _))⟩
theorem cr_setL (hc : X.calm = true) : CallR X (.type "set") (rSetL X.prog X.w X.K) := by
  intro pins s σ H xs us Q I r h
  obtain ⟨a, ys, e, hs, hl, q⟩ := h
  exact cr_setM hc pins s σ H xs us Q I r ⟨a, ys, e, hs, Nat.le_trans (tAll_len ys) hl, q⟩
/-- sorted(found) -/
def rSortT (P : Program) (w : World) : List V → Hp → VK → Prop := fun xs H Q => ∃ (a : Addr) (l : List Str), xs = [.ref a] ∧ H a = some (SetT P w a l) ∧ l.length ≤ 4000 ∧ ∀ ys p, ys.Perm l → sortedS ys = true → H p = none → Q (.ref p) (upd H p (.lst (ys.map V.str)))
theorem cr_sortT (hc : X.calm = true) : CallR X (.builtin "sorted") (rSortT X.prog X.w) := by
  intro pins s σ H vs us Q I r h
  obtain ⟨a, l, rfl, ha, hl, q⟩ := h
  have T : TSet X.prog X.w a l s.heap := (I.hok a _ ha).1
  rw [Vals.ref1 r]
  refine call_sortedT T (I.ok.hd hc) (by unfold scanBound; omega) fun s' p out c ys k g o hp hg hi pm hs => ?_
  have hlen : (ys.map V.str).length ≤ sizeLine := by
    rw [List.length_map, pm.length_eq]
    exact Nat.le_trans hl (by decide)
  have hn : H p = none := I.hok.fresh hp
  have J : Inv X pins σ (upd H p (.lst (ys.map V.str))) { s with heap := s'.heap, gens := s'.gens, drawn := s'.drawn, toks := s'.toks } :=
    I.call (ch := []) (Un.laid k hp hn) (I.hok.laid k hp ⟨hlen, out.toList, c, vals_of_strs hi, hg⟩) (by rw [g]; exact I.bare) (fun _ z => nomatch z)
  have e : s' = { s with heap := s'.heap, gens := s'.gens, drawn := s'.drawn, toks := s'.toks } := by
    cases s'
    cases s
    cases o
    rfl
  rw [e]
  exact ⟨.ref p, _, J, rfl, q ys p pm hs hn⟩
end
section
variable {X : Cx} (P : Program) (w : World) (K : PySem.W.Frag) (hP : X.prog = P) (hw : X.w = w) (hK : X.K = K) (hc : X.calm = true)
include hP hw hc
theorem cr_sortTK : CallR X (.builtin "sorted") (rSortT P w) := by subst hP hw; exact cr_sortT hc
include hK
theorem cr_setMK : CallR X (.type "set") (rSetM P w K) := by subst hP hw hK; exact cr_setM hc
theorem cr_setLK : CallR X (.type "set") (rSetL P w K) := by subst hP hw hK; exact cr_setL hc
end
/-! ### what is sorted and has no text twice is told by its members -/
theorem sortedS_pw : ∀ {l : List Str}, sortedS l = true → l.Pairwise fun a b => ltCps b.cps.toList a.cps.toList = false := by
  have tr : ∀ a b c : List Nat, ltCps b a = false → ltCps c b = false → ltCps c a = false := fun a b c h1 h2 => by
    rw [ltCps_eq] at h1 h2 ⊢
    have h1 := of_decide_eq_false h1
    have h2 := of_decide_eq_false h2
    exact decide_eq_false fun h => h1 (Std.lt_of_le_of_lt (Std.not_lt.mp h2) h)
  have go : ∀ (l : List Str) (p : Str), risingS p l = true → (p :: l).Pairwise fun a b => ltCps b.cps.toList a.cps.toList = false := by
    intro l
    induction l with
    | nil => intro p _; exact List.pairwise_singleton _ _
    | cons x r ih =>
      intro p h
      have h : (!ltCps x.cps.toList p.cps.toList && risingS x r) = true := h
      rw [Bool.and_eq_true] at h
      have i := ih x h.2
      have h1 : ltCps x.cps.toList p.cps.toList = false := by simpa using h.1
      refine List.Pairwise.cons (fun y hy => ?_) i
      rcases List.mem_cons.mp hy with rfl | hy
      · exact h1
      · exact tr _ _ _ h1 (List.rel_of_pairwise_cons i hy)
  intro l h
  cases l with
  | nil => exact List.Pairwise.nil
  | cons x r => exact go r x h
theorem sorted_one {l m : List Str} (h1 : sortedS l = true) (h2 : sortedS m = true) (p : l.Perm m) : l = m := by
  refine List.Perm.eq_of_pairwise (le := fun a b => ltCps b.cps.toList a.cps.toList = false) (fun a b _ _ q1 q2 => ?_) (sortedS_pw h1) (sortedS_pw h2) p
  rw [ltCps_eq] at q1 q2
  have q1 := of_decide_eq_false q1
  have q2 := of_decide_eq_false q2
  have e : a.cps.toList = b.cps.toList := Std.le_antisymm (Std.not_lt.mp q1) (Std.not_lt.mp q2)
  obtain ⟨⟨a⟩⟩ := a
  obtain ⟨⟨b⟩⟩ := b
  have e : a = b := e
  rw [e]
end LH

namespace LH
open PySem PySem.Spec PyProof.Rows L2
/-! ### text[::-1] -/
def tRevS (te : TE) : TE := fun σ H Q => te σ H fun x H1 => ∃ z : Str, x = .str z ∧ z.length ≤ sizeLine ∧ Q (.str ⟨z.cps.toList.reverse.toArray⟩) H1
theorem rev_signs (z : Str) : (⟨((Builtin.Str.strSliceIndices none none (-1) z.length).filterMap (z.cps[·]?)).toArray⟩ : Str) = ⟨z.cps.toList.reverse.toArray⟩ := by
  congr 2
  have e : Builtin.Str.strSliceIndices none none (-1) z.length = (List.range z.length).reverse := by
    show sliceRange ((z.length : Int) - 1) (-1) (-1) = _
    rw [PySem.W.krv_sliceRange, PySem.W.krv_range]
  rw [e, List.filterMap_reverse]
  congr 1
  exact PySem.W.krv_all z.cps
theorem pe_revS {X : Cx} {e : Expr} {te : TE} {k : Nat} {p1 p2 p3 pos : Pos} (he : PE X e te) : PE X (.Subscript e (.Slice none none (some (.UnaryOp .USub (.Constant (.int 1) k p1) p2)) p3) pos) (tRevS te) := by
  refine ⟨fun pins s σ H Q I h => ?_⟩
  refine Subscript_ (thn (he.run pins s σ H _ I h) fun v s1 ⟨x, H1, I1, r1, q1⟩ => ?_)
  obtain ⟨z, ex, hz, q⟩ := q1
  subst ex
  obtain ⟨t, rfl⟩ := r1
  have hst : PO X (some (.UnaryOp .USub (.Constant (.int 1) k p1) p2)) (tPart (tUn (rU fun i => .int (-i)) (tC (.int 1)))) := po_some (pe_un un_neg pe_int)
  refine wpAny_Slice (thn (po_none.run pins s1 σ H1 (fun o H2 => o = none ∧ H2 = H1) I1 ⟨rfl, rfl⟩) fun vl s2 ⟨l, H2, I2, pl, el, e2⟩ => ?_)
  subst el e2
  refine thn (po_none.run pins s2 σ H2 (fun o H3 => o = none ∧ H3 = H2) I2 ⟨rfl, rfl⟩) fun vu s3 ⟨u, H3, I3, pu, eu, e3⟩ => ?_
  subst eu e3
  refine thn (hst.run pins s3 σ H3 (fun o H4 => o = some (-1) ∧ H4 = H3) I3 ⟨1, rfl, -1, rfl, rfl, rfl⟩) fun vs s4 ⟨o, H4, I4, ps, eo, e4⟩ => ?_
  subst eo e4
  have I5 : Inv X pins σ H4 { s4 with heap := s4.heap.push { cls := .type "slice", data := .fields #[vl, vu, vs] } } := I4.kept (t' := s4.toks) fun b ob q => Heap.get?_push_of_some _ q
  obtain ⟨l', rfl, hl'⟩ := IsPart.raw pl
  obtain ⟨u', rfl, hu'⟩ := IsPart.raw pu
  obtain ⟨st, rfl, hs'⟩ := IsPart.raw ps
  have el : l' = none := by cases l' <;> simp_all
  have eu : u' = none := by cases u' <;> simp_all
  subst el eu
  obtain ⟨c, d, rfl⟩ : ∃ c d, st = some (c, d) := by
    cases st with
    | none => simp at hs'
    | some p => exact ⟨p.1, p.2, rfl⟩
  have ec : (-1 : Int) = c := by simpa using hs'.symm
  subst ec
  refine tail_any (ops := [.str z t, .ref s4.heap.objs.size]) (typeIs_str _ _ _) F.slot_str_getitem.lookup ?_ (by with_unfolding_all rfl)
  refine wpAny_getItem_str_slice (l := none) (u := none) (st := some (-1, d)) ⟨_, Heap.get?_push_size _ rfl, rfl, rfl⟩ rfl ?_
  show Made.post (if ((-1 : Int) == 1 && (Builtin.Str.strSliceIndices none none (-1) z.length).length == z.length) = true then Made.val (.str z t)
    else Made.str ⟨((Builtin.Str.strSliceIndices none none (-1) z.length).filterMap (z.cps[·]?)).toArray⟩) (EP X pins σ Q) _
  rw [if_neg (by simp), rev_signs]
  refine ⟨?_, .str _, H4, I5.tok _, ⟨_, rfl⟩, q⟩
  show z.cps.toList.reverse.toArray.size ≤ sizeLine
  rw [List.size_toArray, List.length_reverse, Array.length_toList]
  exact hz
/-! ### sorted(text) -/
def rSortStr : List V → Hp → VK → Prop := fun xs H Q => ∃ z : Str, xs = [.str z] ∧ z.length ≤ 1000 ∧ ∀ ys p, ys.Perm (z.cps.toList.map fun c => (⟨#[c]⟩ : Str)) → sortedS ys = true → H p = none → Q (.ref p) (upd H p (.lst (ys.map V.str)))
theorem strs_signs {z : Str} {acc : Array Value} (h : ItemsOf (SignAt z) acc z.cps.size) : StrsAre acc.toList (z.cps.toList.map fun c => (⟨#[c]⟩ : Str)) := by
  have v := vals_sgns h
  have e : sgns z = (z.cps.toList.map fun c => (⟨#[c]⟩ : Str)).map V.str := by
    unfold sgns
    rw [List.map_map]
    rfl
  rw [e] at v
  exact v.strs
/-- the signs of a text, gathered; the heap does not shrink -/
theorem collect_signs {P : Program} {w : World} {A : Around} {E : Value → Shared → Prop} {s : Shared} {Q : List Value → Shared → Prop} (hh : A.handled = none) (x : Str) (t : Tok) (hn : x.cps.size ≤ sizeLine)
    (hQ : ∀ s' acc, (∀ b o, s.heap.get? b = some o → s'.heap.get? b = some o) → s.heap.objs.size ≤ s'.heap.objs.size → s'.gens = s.gens → s'.drawn = s.drawn → s'.os = s.os → ItemsOf (SignAt x) acc x.cps.size → Q acc.toList s') :
    wpAny (model P w) A (collect (.str x t)) Q E s := by
  unfold collect
  refine wpAny_bind (wpAny_runValue (codeAny_builtin F.entry_proto_collect ?_))
  rw [Around.under_plainId F.plain_proto_collect _]
  show wpAny _ A.in1 (newList [] >>= fun l => again (.builtin "list.__iadd__" ⟨[l, .str x t], []⟩)) _ _ s
  refine wpAny_bind (wpAny_newObj_type (wpAny_pure ⟨plainId_quiet F.plain_list_iadd _, codeAny_builtin F.entry_list_iadd ?_⟩))
  rw [Around.under_plainId F.plain_list_iadd _]
  show wpAny _ A.in1 (Builtin.List.listExtendWith (.ref s.heap.objs.size) (.str x t) (.ref s.heap.objs.size)) _ _ _
  unfold Builtin.List.listExtendWith
  refine wpAny_bind (wpAny_typeOf (T := "str") (v := .str x t) rfl ?_)
  have n1 : Builtin.List.listSameRef (.ref s.heap.objs.size) (.str x t) = false := rfl
  have n2 : (Value.type "str" == Value.type "list") = false := by decide
  have n3 : (Value.type "str" == Value.type "tuple") = false := by decide
  simp only [n1, n2, n3, Bool.or_false, Bool.false_eq_true, if_false]
  refine wpAny_bind (wpAny_pyIter_str fun o St W st => wpAny_bind (wpAny_holding ?_))
  unfold Builtin.List.listLengthHint
  refine wpAny_bind (wpAny_specialOf (T := "str") (v := .str x t) rfl F.str_len ?_)
  wp_delta
  refine wpAny_bind (wpAny_isInstance (T := "str") (v := .str x t) (b := true) rfl (by rw [isSubtype_type]; kernel_rfl) ?_)
  show wpAny _ A.in1 (typeOf (Value.str x t) >>= _) _ _ _
  refine wpAny_bind (wpAny_typeOf (T := "str") (v := .str x t) rfl (wpAny_pure ?_))
  rw [if_neg (by decide)]
  have z1 : (s.heap.push { cls := .type "list", data := .seq ([] : List Value).toArray }).objs.size = s.heap.objs.size + 1 := Heap.size_push ..
  have l1 : (s.heap.push { cls := .type "list", data := .seq ([] : List Value).toArray }).get? s.heap.objs.size = some { cls := .type "list", data := .seq ([] : List Value).toArray } := Heap.get?_push_size _ rfl
  have up : ∀ b ob, s.heap.get? b = some ob → (s.heap.push { cls := .type "list", data := .seq ([] : List Value).toArray }).get? b = some ob := fun b ob e => Heap.get?_push_of_some _ e
  generalize s.heap.push { cls := .type "list", data := .seq ([] : List Value).toArray } = G at W st z1 l1 up ⊢
  have out : s.heap.objs.size ∉ [G.objs.size] := fun h => by
    have := List.mem_singleton.mp h
    omega
  refine wpAny_pure ⟨plainId_quiet F.plain_extend_loop _, codeAny_extend_loopS (W A.in1 hh).toS hn _ out _ x.cps.size 0 _ _ _ rfl (Nat.zero_le _) st (Heap.get?_push_of_some _ l1) (ItemsOf.nil _) fun s' acc c m here it => ?_⟩
  show wpAny _ A (load s.heap.objs.size >>= _) _ _ s'
  refine wpAny_bind (wpAny_load here (wpAny_pure (hQ s' acc (fun b ob e => ?_) (Nat.le_of_lt (Heap.lt_size here)) m.gens m.drawn m.os it)))
  have lt := Heap.lt_size e
  refine m.heap b ob (fun h => ?_) (Heap.get?_push_of_some _ (up b ob e))
  rcases List.mem_cons.mp h with h | h
  · exact absurd lt (by rw [h]; exact Nat.lt_irrefl _)
  · have := List.mem_singleton.mp h
    exact absurd lt (by rw [this, z1]; exact Nat.not_lt_of_le (Nat.le_succ _))
theorem cr_sortStr {X : Cx} (hc : X.calm = true) : CallR X (.builtin "sorted") rSortStr := by
  intro pins s σ H vs us Q I r h
  obtain ⟨z, rfl, hz, q⟩ := h
  obtain ⟨u, rfl, rx⟩ := vals1 r
  obtain ⟨t, rfl⟩ := rx
  have zl : z.cps.size ≤ sizeLine := Nat.le_trans hz (by decide)
  refine Calls.call_function_entry kind_sorted plain_sorted entry_sorted (args_sorted1 _) ?_
  unfold Builtin.«sorted»
  refine wpAny_bind (m := checkCount "sorted" 1 1 _) (wpAny_pure ?_)
  refine wpAny_bind (collect_signs (A := X.A.in1) (I.ok.hd hc) z t zl fun s1 acc k1 hsz g1 d1 o1 it => ?_)
  have hS := strs_signs it
  have hvl : acc.toList.length ≤ sizeLine := by
    rw [Array.length_toList, it.1]
    exact zl
  refine wpAny_bind (wpAny_newList ?_ hvl)
  have hoL : (s1.heap.push (seqObj "list" acc.toList.toArray 0)).get? s1.heap.objs.size = some (seqObj "list" acc.toList.toArray 0) := Heap.get?_push_size _ rfl
  refine wpAny_bind (wpAny_holding (wpAny_call_entry slot_list_sort ⟨_, hoL, rfl⟩ entry_list_sort (list_sort_treeKAny strKind_oneLt hoL hS.keysOf (fun v₁ v₂ rest e => keyKind_strs (by rw [← e]; exact hS)) hvl fun st' hp hs => ⟨_, rfl, ?_⟩) (args_list_sort _)))
  obtain ⟨ys, a1, a2, a3⟩ := sorted_out_str hS hp hs
  obtain ⟨c, hcc⟩ := sortedHeap_at (vs := acc.toList) (out := (arrOf st').map (·.2)) hoL
  have hlen : (ys.map V.str).length ≤ sizeLine := by
    rw [List.length_map, a2.length_eq, List.length_map, Array.length_toList]
    exact zl
  have kk : ∀ b o, s.heap.get? b = some o → (sortedHeap (s1.heap.push (seqObj "list" acc.toList.toArray 0)) s1.heap.objs.size acc.toList ((arrOf st').map (·.2))).get? b = some o := fun b o e => by
    have q1 := k1 b o e
    have hlt := Heap.lt_size q1
    refine (sortedHeap_old (Nat.ne_of_lt hlt) ?_).trans (Heap.get?_push_of_some _ q1)
    exact Nat.lt_of_lt_of_eq (Nat.lt_succ_of_lt hlt) (size_push' ..).symm
  have hn : H s1.heap.objs.size = none := I.hok.fresh hsz
  obtain ⟨h1, g1', d1', tk1, os1⟩ := s1
  obtain rfl : g1' = s.gens := g1
  obtain rfl : d1' = s.drawn := d1
  obtain rfl : os1 = s.os := o1
  refine wpAny_pure ⟨_, rfl, .ref h1.objs.size, _, I.laid (t' := tk1) kk hsz (o := .lst (ys.map V.str)) ⟨hlen, _, c, vals_of_strs a1, hcc⟩, rfl, q ys _ a2 a3 hn⟩
end LH

namespace LH
open PySem PySem.Spec PyProof.Rows L2
/-! ### {text for .. in ..} -/
/-- found.add(text) -/
theorem tset_put {P : Program} {w : World} {A : Around} {E : Value → Shared → Prop} {s : Shared} {a : Addr} {l : List Str} {k : Str} {u : Tok} {Q : Value → Shared → Prop} (T : TSet P w a l s.heap) (hb : l.length + 1 < scanBound)
    (h : ∀ (h' : Heap) (tk : Nat), TSet P w a (tAdd l k) h' → (∀ c o, c ≠ a → s.heap.get? c = some o → h'.get? c = some o) → Q .none { s with heap := h', toks := tk }) :
    wpAny (model P w) A (call (.builtin "set.add") [.ref a, .str k u]) Q E s := by
  have ⟨_, D, ho, _⟩ := T
  have ty : s.TypeIs (.ref a) "set" := ⟨_, ho, rfl⟩
  refine wpAny_call_entry PySem.F.slot_set_add ty PySem.F.entry_set_add ?_ (PySem.F.args_set_add_2 _ _)
  unfold Builtin.«set.add» Builtin.Frozenset.oneOther Builtin.Frozenset.addrOf
  simp only [List.isEmpty_nil, bind_assoc]
  refine wpAny_bind (wpAny_pure (wpAny_bind (wpAny_pure (wpAny_bind ?_))))
  exact tx_add T hb fun b h' tk _ T' kp => wpAny_pure ⟨_, rfl, h h' tk T' kp⟩
section
variable {X : Cx}
theorem setT_put {pins : List (Addr × Obj)} {σ : L2.St} {H : Hp} {s : Shared} {E : Value → Shared → Prop} {D : Addr} {l : List Str} {k : Str} {u : Value} {Q : Value → Shared → Prop} (I : Inv X pins σ H s) (hD : H D = some (SetT X.prog X.w D l)) (hb : l.length + 1 < scanBound) (ru : RelV (.str k) u)
    (h : ∀ s', Inv X pins σ (upd H D (SetT X.prog X.w D (tAdd l k))) s' → Q .none s') : wpAny (model X.prog X.w) X.A (call (.builtin "set.add") [.ref D, u]) Q E s := by
  have T : TSet X.prog X.w D l s.heap := (I.hok D _ hD).1
  obtain ⟨t, rfl⟩ := ru
  refine tset_put T hb fun h' tk T' kp => h _ ?_
  have ⟨_, D', e', _⟩ := T'
  exact I.write (e := D) (t' := tk) (by rw [hD]; trivial) (.inl rfl) (fun b o hb q => kp b o hb q) ⟨_, e'⟩ (setT_new T')
/-- what is asked of a turn of the block: the walk J, the place D of the set -/
def TurnsT (P : Program) (w : World) (J : It) (g : TG) (tt : TT) (te : TE) (vs : List Nat) (σ : L2.St) (D : Addr) (Q : Hp → Prop) (W : Nat → Nat → Hp → Prop) : Prop := ∀ i m H, W i m H →
  (J.stop i H ∧ Q H) ∨ (J.go i H ∧ ∃ N : Hp → Prop, (∀ H', N H' → ∃ m', m' < m ∧ W (i + 1) m' H') ∧
    ∀ x H', J.yld i H x H' → g x (wipe σ vs) H' fun σ' H2 => wipe σ' vs = wipe σ vs ∧ tt σ' H2 fun b H3 => bif b then te σ' H3 fun y H4 =>
      ∃ (k : Str) (l : List Str), y = .str k ∧ H4 D = some (SetT P w D l) ∧ l.length + 1 < scanBound ∧ N (upd H4 D (SetT P w D (tAdd l k))) else N H3)
/-- the set comprehension of texts: D is where the new set stands -/
def tScT (P : Program) (w : World) (wi : TI) (g : TG) (tt : TT) (te : TE) (vs : List Nat) : TE := fun σ H Q => wi σ H fun J H1 =>
  ∀ D, H1 D = none → ∃ W : Nat → Nat → Hp → Prop, (∃ m, W 0 m (upd H1 D (SetT P w D []))) ∧ TurnsT P w J g tt te vs σ D (Q (.ref D)) W
variable {elt tg iter : Expr} {ifs : List Expr} {scope : Scope} {own : List (Str × Nat)} {pos : Pos} {wi : TI} {g : TG} {tt : TT} {te : TE}
theorem pe_scT (hc : X.calm = true) (nd : X.N.Nodup) (pi : PI X tg iter wi) (bk : BlkOk X.N X.env.scope scope own)
    (pG : ∀ (s : Shared) (H : Hp) (C : Addr) (cs : List (Str × Addr)) (ps : List Addr), PG (X.blk s H scope (compEnvC scope cs C X.env) ps) tg g)
    (pT : ∀ (s : Shared) (H : Hp) (C : Addr) (cs : List (Str × Addr)) (ps : List Addr), PTs (X.blk s H scope (compEnvC scope cs C X.env) ps) ifs tt)
    (pE : ∀ (s : Shared) (H : Hp) (C : Addr) (cs : List (Str × Addr)) (ps : List Addr), PE (X.blk s H scope (compEnvC scope cs C X.env) ps) elt te)
    (fs : ∀ x, foldedSetIterable iter X.env x = pure x := by intro _; rfl) : PE X (.SetComp elt [⟨tg, iter, ifs, 0⟩] scope pos) (tScT X.prog X.w wi g tt te (own.map (·.2))) := by
  refine ⟨fun pins s σ H Q I h => ?_⟩
  rw [PpSet.eval_SetComp]
  have fr : ∀ y ∈ scope.names, y.2 = .free → ∃ c, X.env.cells.lookup y.1 = some c := fun y hy e => (bk.free y hy e).elim (fun k => I.ok.has _ (.inl k)) fun k => I.ok.has _ (.inr k)
  refine wpAny_comprehension_free rfl fs (closure_ok fr) bk.kind (fun y hy e => by rw [bk.uniq y hy, e]) (thn (pi.run pins s σ H _ I h) fun _ _ hx => thn hx fun _ sa ha => ?_)
  obtain ⟨it, ps, St, J, Ha, e, Ia, T, sta, fpa, q⟩ := ha
  subst e
  refine PpSet.newSet_ok (newEnv_comp ?_)
  obtain ⟨D, hD⟩ : ∃ D, D = sa.heap.objs.size := ⟨_, rfl⟩
  rw [← hD]
  obtain ⟨W, ⟨m0, w0⟩, turns⟩ := q D (Ia.hok.fresh (Nat.le_of_eq hD.symm))
  obtain ⟨sb, hsb⟩ : ∃ sb : Shared, sb = { sa with heap := sa.heap.push (set0 X.w) } := ⟨_, rfl⟩
  have hpb : sb.heap = sa.heap.push (set0 X.w) := by rw [hsb]
  have upb : ∀ b o, sa.heap.get? b = some o → sb.heap.get? b = some o := fun b o z => by
    rw [hpb]
    exact Heap.get?_push_of_some _ z
  obtain ⟨Hb, hHb⟩ : ∃ Hb, Hb = upd Ha D (SetT X.prog X.w D []) := ⟨_, rfl⟩
  have Ib : Inv X pins σ Hb sb := by
    rw [hHb, hsb, hD]
    exact Ia.laid (t' := sa.toks) (fun _ _ z => Heap.get?_push_of_some _ z) (Nat.le_refl _) (setT_new (tset_new (Heap.get?_push_size _ rfl)))
  have fpb : ∀ b ∈ ps, FpOk X pins Hb b ∧ b < sb.heap.objs.size := fun b hb => by
    have ⟨o, eo, _⟩ := T.obj _ _ sta b hb
    have lt := Heap.lt_size eo
    refine ⟨⟨?_, (fpa b hb).2⟩, Heap.lt_size (upb b o eo)⟩
    rw [hHb, upd_ne (by rw [hD]; exact Nat.ne_of_lt lt)]
    exact (fpa b hb).1
  have stb : St 0 sb.heap := T.keep _ _ _ sta fun b _ o z => upb b o z
  have Ic := block_start Ib bk nd fpb
  obtain ⟨cs, hcs⟩ : ∃ cs, cs = cellsFrom (sb.heap.objs.size + 1) scope.names (cloFrom X.env.cells scope.names []) := ⟨_, rfl⟩
  rw [← hcs] at Ic
  have kG := pG sb Hb sb.heap.objs.size cs ps
  have kT := pT sb Hb sb.heap.objs.size cs ps
  have kE := pE sb Hb sb.heap.objs.size cs ps
  rw [← hHb] at w0
  obtain ⟨be, hbe⟩ : ∃ be, be = compEnvC scope cs sb.heap.objs.size X.env := ⟨_, rfl⟩
  have bl : be.locals = sb.heap.objs.size := by rw [hbe]; rfl
  rw [← hbe] at Ic kG kT kE
  obtain ⟨sc, hsc⟩ : ∃ sc : Shared, sc = { sb with heap := pushCells (sb.heap.push { cls := .type "dict", data := .dict #[] }) scope.names } := ⟨_, rfl⟩
  rw [← hsc] at Ic
  have stc : St 0 sc.heap := T.keep _ _ _ stb fun b _ o z => by
    rw [hsc]
    exact pushCells_keeps _ _ _ _ (Heap.get?_push_of_some _ z)
  have rest : ∀ {τ : L2.St} {G : Hp} {sx : Shared}, Inv (X.blk sb Hb scope be ps) [] τ G sx → (∀ b ∈ ps, G b = none) → ∀ b ∈ ps, FpOk (X.blk sb Hb scope be ps) [] G b := fun {τ G sx} Ix nx b hb => by
    have z := Ix.ok.exf b hb
    exact ⟨nx b hb, z.1, Ix.ok.exfs b hb, .inl hb, z.2, fun p hp => by cases (show p ∈ ([] : List (Addr × Obj)) from hp)⟩
  have fin : compPost (model X.prog X.w) X.A X.xe none (fun v s' => ∃ y H', Inv X pins σ H' s' ∧ RelV y v ∧ Q y H') (.ref D) sb.heap.objs.size = compPost (model X.prog X.w) X.A X.xe none (fun v s' => ∃ y H', Inv X pins σ H' s' ∧ RelV y v ∧ Q y H') (.ref D) sb.heap.objs.size := rfl
  have loop : codeAny (model X.prog X.w) X.A (.compLoop (.SetComp elt [⟨tg, iter, ifs, 0⟩] scope pos) 0 (.ref it) (.ref D) be) (compPost (model X.prog X.w) X.A X.xe none (fun v s' => ∃ y H', Inv X pins σ H' s' ∧ RelV y v ∧ Q y H') (.ref D) sb.heap.objs.size) sc := by
    refine PpSet.compLoopS_any (fun n sx => ∃ i G, Inv (X.blk sb Hb scope be ps) [] (wipe σ (own.map (·.2))) G sx ∧ St i sx.heap ∧ (∀ b ∈ ps, G b = none) ∧ W i n G) ?_ m0 ⟨0, Hb, Ic, stc, fun b hb => (fpb b hb).1.1, w0⟩
    rintro n s1 ⟨i, H1, I1, st1, n1, w1⟩
    rcases turns i n H1 w1 with ⟨stop, qd⟩ | ⟨go, N, hN, step⟩
    · refine thnF (T.done (X.blk sb Hb scope be ps) rfl rfl rfl hc i [] s1 _ H1 (fun _ _ => False) I1 (rest I1 n1) st1 stop) fun r s2 ⟨er, I2⟩ => ?_
      subst er
      have I3 : Inv X pins σ H1 s2 := Ib.call' (ch := ps) I2.os I2.base I2.hok I2.bare fun b hb => by
        have z := (fpb b hb).1.2
        exact ⟨z.2.2.1, z.1, z.2.2.2.1, z.2.2.2.2⟩
      have nC : H1 sb.heap.objs.size = none := by
        rw [← bl]
        exact I2.free
      obtain ⟨m, hm, _⟩ := I2.loc
      have hm : s2.heap.Ns be.locals m := hm
      rw [bl] at hm
      obtain ⟨f0, f1, _, f3, f4, f5⟩ := Ib.fpOk (Nat.le_refl _) nC
      exact ⟨m, hm, fun _ sm => ⟨.ref D, H1, I3.turned (t' := s2.toks) (fun b o hb z => (sm.2 b hb).trans z) f0 f1 f3 f4 f5, rfl, qd⟩⟩
    · refine thnF (T.item (X.blk sb Hb scope be ps) rfl rfl rfl hc i [] s1 _ H1 (fun _ _ => False) I1 (rest I1 n1) st1 go) fun r s2 ⟨u, er, h2⟩ => ?_
      subst er
      refine thnF h2 fun _ s3 ⟨x, H3, I3, r3, y3, st3, n3⟩ => ?_
      have P3 := I3.pinned (rest I3 n3) (T.obj _ _ st3)
      refine thnF (kG.run _ s3 _ H3 x u _ P3 r3 (step x H3 y3)) fun _ s4 ⟨σ4, H4, I4, hw, q4⟩ => ?_
      refine thnF (kT.run _ s4 σ4 H4 _ I4 q4) fun b s5 ⟨H5, I5, q5⟩ => ?_
      have back : ∀ {sx : Shared} {G : Hp}, Inv (X.blk sb Hb scope be ps) ([] ++ pinsAt ps s3.heap) σ4 G sx → N G → ∃ m, m < n ∧ ∃ i G, Inv (X.blk sb Hb scope be ps) [] (wipe σ (own.map (·.2))) G sx ∧ St i sx.heap ∧ (∀ b ∈ ps, G b = none) ∧ W i m G := fun {sx G} Ix nG => by
        obtain ⟨m', lt, w'⟩ := hN G nG
        have kp : ∀ b ∈ ps, ∀ o, s3.heap.get? b = some o → sx.heap.get? b = some o ∧ G b = none := fun b hb o z => by
          have y := Ix.pin (b, o) (List.mem_append_right _ (List.mem_append_right _ (mem_pinsAt hb z)))
          exact ⟨y.1, y.2.1⟩
        refine ⟨m', lt, i + 1, G, (Ix.unpinned (pins := [])).weak (by rw [← hw, wipe_length]) (fun j v z => ?_), T.keep _ _ _ st3 fun b hb o z => (kp b hb o z).1, fun b hb => ?_, w'⟩
        · rw [← hw] at z
          exact (wipe_some z).1
        · have ⟨o, z, _⟩ := T.obj _ _ st3 b hb
          exact (kp b hb o z).2
      cases b with
      | false => exact back I5 q5
      | true =>
        refine thnF (kE.run _ s5 σ4 H5 _ I5 q5) fun z s6 ⟨y, H6, I6, r6, k, l, ey, hl6, hb6, nx⟩ => ?_
        subst ey
        exact setT_put (X := X.blk sb Hb scope be ps) I6 hl6 hb6 r6 fun s7 I7 => back I7 nx
  have e1 : ({ sb with heap := pushCells (sb.heap.push { cls := .type "dict", data := .dict #[] }) scope.names } : Shared) = sc := hsc.symm
  rw [hsb] at e1 loop hbe hcs
  have := PpSet.codeAny_compStart_set loop (T.self X.A 0 _ _ _ stc loop)
  rw [hbe, hcs, ← e1] at this
  exact this
/-- over a walk -/
theorem sc_it {P : Program} {w : World} {J : It} {n : Nat} {G : Hp → Prop} {Y : Nat → Hp → V → Hp → Prop} (wk : Walk J n G Y) {vs : List Nat} {σ : L2.St} {H1 : Hp} {D : Addr} {Q : Hp → Prop} (Pv : Nat → Hp → Prop) (h0 : Pv 0 (upd H1 D (SetT P w D []))) (hG : ∀ i H, i ≤ n → Pv i H → G H)
    (hs : ∀ i x H H', i < n → Pv i H → Y i H x H' → g x (wipe σ vs) H' fun σ' H2 => wipe σ' vs = wipe σ vs ∧ tt σ' H2 fun b H3 => bif b then te σ' H3 fun y H4 =>
      ∃ (k : Str) (l : List Str), y = .str k ∧ H4 D = some (SetT P w D l) ∧ l.length + 1 < scanBound ∧ Pv (i + 1) (upd H4 D (SetT P w D (tAdd l k))) else Pv (i + 1) H3) (hd : ∀ H, Pv n H → Q H) :
    ∃ W : Nat → Nat → Hp → Prop, (∃ m, W 0 m (upd H1 D (SetT P w D []))) ∧ TurnsT P w J g tt te vs σ D Q W := by
  refine ⟨fun i m H => m + i = n ∧ Pv i H, ⟨n, rfl, h0⟩, fun i m H hW => ?_⟩
  obtain ⟨e, p⟩ := hW
  have q := hG i H (by omega) p
  cases m with
  | zero =>
    obtain rfl : i = n := by omega
    exact .inl ⟨wk.stops H q, hd H p⟩
  | succ m =>
    have lt : i < n := by omega
    exact .inr ⟨wk.goes i H lt q, Pv (i + 1), fun H' p' => ⟨m, Nat.lt_succ_self _, by omega, p'⟩, fun x H' y => hs i x H H' lt p (wk.yields i H x H' lt q y)⟩
end
section
variable {X : Cx} (P : Program) (w : World) (hP : X.prog = P) (hw : X.w = w)
include hP hw
theorem pe_scTK {elt tg iter : Expr} {ifs : List Expr} {scope : Scope} {own : List (Str × Nat)} {pos : Pos} {wi : TI} {g : TG} {tt : TT} {te : TE} (hc : X.calm = true) (nd : X.N.Nodup) (pi : PI X tg iter wi) (bk : BlkOk X.N X.env.scope scope own)
    (pG : ∀ (s : Shared) (H : Hp) (C : Addr) (cs : List (Str × Addr)) (ps : List Addr), PG (X.blk s H scope (compEnvC scope cs C X.env) ps) tg g)
    (pT : ∀ (s : Shared) (H : Hp) (C : Addr) (cs : List (Str × Addr)) (ps : List Addr), PTs (X.blk s H scope (compEnvC scope cs C X.env) ps) ifs tt)
    (pE : ∀ (s : Shared) (H : Hp) (C : Addr) (cs : List (Str × Addr)) (ps : List Addr), PE (X.blk s H scope (compEnvC scope cs C X.env) ps) elt te)
    (fs : ∀ x, foldedSetIterable iter X.env x = pure x := by intro _; rfl) : PE X (.SetComp elt [⟨tg, iter, ifs, 0⟩] scope pos) (tScT P w wi g tt te (own.map (·.2))) := by
  subst hP hw
  exact pe_scT hc nd pi bk pG pT pE fs
end
end LH

namespace LH
open PySem PySem.Spec PyProof.Rows L2
/-! ### for number, thing in enumerate(tuple) -/
theorem meets_enumT {v : Value} {ob : Obj} {Z : Heap → Prop} (B : Begins v ob Z) :
    Meets (Builtin.«enumerate.__new__» ⟨[.type "enumerate", v], []⟩) (fun _ R s => Z s.heap ∧
      R (.ok (.ret (.ref (s.heap.push ob).objs.size))) { s with heap := (s.heap.push ob).push { cls := .type "enumerate", data := .fields #[.none, .bool false, .ref s.heap.objs.size, rawInt 0, .none, .none] } }) :=
  .of_wp fun P w A R s z => by
    obtain ⟨hz, hR⟩ := z
    obtain ⟨hp, g, d, tk, os⟩ := s
    have go : ∀ {A' : Around} {E : Value → Shared → Prop} {Q : Value → Shared → Prop}, Q (.ref hp.objs.size) ⟨hp.push ob, g, d, tk, os⟩ → wpAny (model P w) A' (pyIter v) Q E ⟨hp, g, d, tk, os⟩ := fun q => B.iter P w _ _ ⟨hp, g, d, tk, os⟩ _ hz q
    have sub := sub_enumerate
    wp_walk using go
    refine wpAny_stack_any fun _ => wpAny_pure ?_
    split
    · rename_i c _ _ _ _ _
      cases (c == Value.type "enumerate") <;> (wp_walk using go; exact ⟨_, rfl, hR⟩)
    · wp_walk using go
      exact ⟨_, rfl, hR⟩
theorem call_enumT {P : Program} {w : World} {A : Around} {E : Value → Shared → Prop} {s : Shared} {v : Value} {ob : Obj} {Z : Heap → Prop} {Q : Value → Shared → Prop} (B : Begins v ob Z) (hz : Z s.heap)
    (h : ∀ h', IsEnum h' (s.heap.objs.size + 1) s.heap.objs.size 0 .none → h'.get? s.heap.objs.size = some ob → (∀ b o, s.heap.get? b = some o → h'.get? b = some o) → Q (.ref (s.heap.objs.size + 1)) { s with heap := h' }) :
    wpAny (model P w) A (call (.type "enumerate") [v]) Q E s := by
  refine callType_new F.called_enumerate (by decide) (F.typeCall_enumerate_1 _) (F.newCall_enumerate_1 _) (fun x => F.args_object_init_2 x _) F.entry_enumerate_new (meets_enumT B) ⟨hz, ?_⟩
  have e1 : (s.heap.push ob).objs.size = s.heap.objs.size + 1 := Heap.size_push ..
  have e2 := Heap.get?_push_size (s.heap.push ob) (o := { cls := .type "enumerate", data := .fields #[.none, .bool false, .ref s.heap.objs.size, rawInt 0, .none, .none] }) rfl
  rw [e1] at e2
  show _ ∧ _
  rw [e1]
  exact ⟨⟨_, e2, rfl⟩, h _ e2 (Heap.get?_push_of_some _ (Heap.get?_push_size _ B.free)) fun b o x => Heap.get?_push_of_some _ (Heap.get?_push_of_some _ x)⟩
/-- the tuple at a, as it stands at each turn; new pairs -/
def ItU (K : PySem.W.Frag) (a : Addr) : It :=
  ⟨fun i H => ∃ (xs : List V) (x : V), SqT K H a xs ∧ xs[i]? = some x,
    fun i H v H' => ∃ T x, v = .ref T ∧ H T = none ∧ H' = upd H T (.tup [.int (i : Nat), x]) ∧ ∀ xs, SqT K H a xs → xs[i]? = some x,
    fun i H => ∃ xs : List V, SqT K H a xs ∧ xs.length = i⟩
theorem walk_U {K : PySem.W.Frag} {a : Addr} {xs : List V} : Walk (ItU K a) xs.length (fun H => SqT K H a xs) (YPair (fun i => some (.int (i : Nat))) (fun i => xs[i]?)) :=
  ⟨fun i _ hi q => ⟨xs, xs[i], q, List.getElem?_eq_getElem hi⟩, fun _ q => ⟨xs, q, rfl⟩, fun i _ _ _ _ q ⟨T, x, a1, a2, a3, a4⟩ => ⟨T, .int (i : Nat), x, a1, a2, a3, rfl, a4 xs q⟩⟩
theorem turn_U {P : Program} {w : World} {K : PySem.W.Frag} {elts : List Expr} {kk : Nat} {tpos : Pos} (a e it : Addr) (hei : e ≠ it) (hae : a ≠ e) (hai : a ≠ it) :
    Turn P w K (.Tuple elts kk tpos) (ItU K a) [e, it] e (fun i h => (∃ old, IsEnum h e it ((i : Nat) : Int) old) ∧ h.IsTupleIter it a i) where
  mem := List.mem_cons_self
  obj := fun i h st b hb => by
    obtain ⟨⟨old, h1⟩, ⟨o, h2, _, h3⟩⟩ := st
    rcases List.mem_cons.mp hb with rfl | hb
    · exact ⟨_, h1, fun v q => nomatch q⟩
    · rw [List.mem_singleton.mp hb]
      exact ⟨o, h2, fun v q => by rw [h3] at q; cases q⟩
  keep := fun i h h' st k => let ⟨⟨old, h1⟩, h2⟩ := st; ⟨⟨old, k e (by simp) _ h1⟩, h2.at fun o q => k it (by simp) o q⟩
  item := by
    intro X hP hw hK hc i pins s σ H E I hf st hg
    subst hP hw hK
    obtain ⟨xs, x, sq, hx⟩ := hg
    obtain ⟨its, rv, pt, _⟩ := I.tuple sq
    have D := WalksT.enumerateD (Draws.tuple (prog := X.prog) (w := X.w) (A := X.A.in1) (I.ok.hd hc) it a hai its.toArray) e hei (by simp [hei, Ne.symm hae]) (by simp)
    obtain ⟨u, hu, ru⟩ := rv.get hx
    have lt : i < its.toArray.size := by
      rw [List.size_toArray]
      exact (List.getElem?_eq_some_iff.mp hu).1
    refine D.item i s _ _ lt ⟨st.1, st.2, pt⟩ fun T vals h1 tk hv hT tup mid k1 => ?_
    obtain ⟨tt, y, hy, rfl⟩ := hv
    obtain rfl : y = u := by
      have : its[i]? = some y := by simpa using hy
      exact Option.some.inj (this.symm.trans hu)
    refine ⟨_, rfl, D.go elts kk tpos i T _ _ _ mid fun h2 st2 k2 => ?_⟩
    have tup2 : h2.IsTuple T #[.int i tt, y] := tup.at fun o q => k2 T o (D.apart i T h1 mid) q
    have I1 : Inv X pins σ (upd H T (.tup [.int (i : Nat), x])) { s with heap := h2, toks := tk } :=
      I.turnedNew (ch := [e, it]) (fun b o hb q => k2 b o hb (k1 b o hb q)) hf hT ⟨by show 2 ≤ sizeLine; decide, [.int i tt, y], .cons ⟨_, rfl⟩ (.cons ru .nil), tup2⟩
    refine ⟨.ref T, _, I1, rfl, ⟨T, x, rfl, I.hok.fresh hT, rfl, fun ys hy => by rw [I.tuple_inj hy sq]; exact hx⟩, ⟨st2.1, st2.2.1⟩, fun b hb => ?_⟩
    have ⟨⟨old, g1⟩, ⟨o, g2, _⟩⟩ := st
    have lb : b < s.heap.objs.size := by
      rcases List.mem_cons.mp hb with rfl | hb
      · exact Heap.lt_size g1
      · rw [List.mem_singleton.mp hb]
        exact Heap.lt_size g2
    rw [upd_ne (Nat.ne_of_lt (Nat.lt_of_lt_of_le lb hT))]
    exact (hf b hb).1
  done := by
    intro X hP hw hK hc i pins s σ H E I hf st hg
    subst hP hw hK
    obtain ⟨xs, sq, hx⟩ := hg
    obtain ⟨its, rv, pt, _⟩ := I.tuple sq
    have D := WalksT.enumerateD (Draws.tuple (prog := X.prog) (w := X.w) (A := X.A.in1) (I.ok.hd hc) it a hai its.toArray) e hei (by simp [hei, Ne.symm hae]) (by simp)
    have en : its.toArray.size = i := by
      rw [List.size_toArray, ← rv.length]
      exact hx
    rw [← en] at st
    exact D.done s _ _ ⟨st.1, st.2, pt⟩ fun h1 tk k1 => ⟨rfl, I.turnedL (ch := [e, it]) (fun b o hb q => k1 b o hb q) hf⟩
  self := fun A i s Q E st hQ => let ⟨⟨old, h1⟩, _⟩ := st; wpAny_pyIter_enum h1 hQ
def iEnumU (K : PySem.W.Frag) (ta : TA) : TI := fun σ H R => ta σ H fun vs H1 => ∃ a xs, vs = [.ref a] ∧ SqT K H1 a xs ∧ R (ItU K a) H1
theorem pi_enumU {X : Cx} (K : PySem.W.Frag) (hK : X.K = K) {e : Expr} {ta : TA} {p pos tpos : Pos} {elts : List Expr} {kk : Nat} (hg : Gl X "enumerate") (hm : X.mg "enumerate" = none) (ha : PA X [e] ta) (hs : starEach [e] X.env = [(false, eval e X.env)] := by rfl) :
    PI X (.Tuple elts kk tpos) (.Call (.Name "enumerate" p) [e] [] pos) (iEnumU K ta) := by
  subst hK
  refine ⟨fun pins s σ H R I h => ?_⟩
  refine Call_ (ld_blt I hg hm boot_enumerate (PyProof.Rows.callWith_type1 (thn (ha.run pos pins s σ H _ I h) fun us s1 ⟨vs, H1, I1, r1, q1⟩ => ?_) hs rfl))
  obtain ⟨a, xs, ex, sq, q⟩ := q1
  subst ex
  obtain ⟨its, rv, pt, _⟩ := I1.tuple sq
  rw [Vals.ref1 r1]
  have la : a < s1.heap.objs.size := by
    have ⟨o, ho, _⟩ := pt
    exact Heap.lt_size ho
  refine call_enumT (begins_tuple a its.toArray) pt fun h1 he hi k1 => wpAny_pyIter_enum he ?_
  have I2 : Inv X pins σ H1 { s1 with heap := h1 } := I1.kept (t' := s1.toks) k1
  refine ⟨s1.heap.objs.size + 1, [s1.heap.objs.size + 1, s1.heap.objs.size], _, _, H1, rfl, I2, turn_U a (s1.heap.objs.size + 1) s1.heap.objs.size (Nat.succ_ne_self _) (Nat.ne_of_lt (Nat.lt_succ_of_lt la)) (Nat.ne_of_lt la), ⟨⟨.none, he⟩, ⟨_, hi, rfl, rfl⟩⟩, fun b hb => ?_, q⟩
  have le : s1.heap.objs.size ≤ b := by
    rcases List.mem_cons.mp hb with rfl | hb
    · exact Nat.le_succ _
    · rw [List.mem_singleton.mp hb]
      exact Nat.le_refl _
  exact I1.fpOk le (I1.hok.fresh le)
end LH

namespace LH
open PySem PySem.Spec PyProof.Rows L2
/-! ### for sign, thing in zip(text, tuple) -/
def ItZ (K : PySem.W.Frag) (z : Str) (a : Addr) : It :=
  ⟨fun i H => ∃ (xs : List V) (x : V) (c : Nat), SqT K H a xs ∧ xs[i]? = some x ∧ z.cps[i]? = some c,
    fun i H v H' => ∃ T x c, v = .ref T ∧ H T = none ∧ H' = upd H T (.tup [.str ⟨#[c]⟩, x]) ∧ z.cps[i]? = some c ∧ ∀ xs, SqT K H a xs → xs[i]? = some x,
    fun i H => ∃ xs : List V, SqT K H a xs ∧ i = min z.cps.size xs.length⟩
theorem walk_Z {K : PySem.W.Frag} {z : Str} {a : Addr} {xs : List V} {n : Nat} (h1 : z.cps.size = n) (h2 : xs.length = n) : Walk (ItZ K z a) n (fun H => SqT K H a xs) (YPair (fun i => (z.cps[i]?).map fun c => .str ⟨#[c]⟩) (fun i => xs[i]?)) :=
  ⟨fun i _ hi q => ⟨xs, xs[i], z.cps[i], q, List.getElem?_eq_getElem (by omega), Array.getElem?_eq_getElem (by omega)⟩, fun _ q => ⟨xs, q, by omega⟩, fun i _ _ _ _ q ⟨T, x, c, a1, a2, a3, a4, a5⟩ => ⟨T, .str ⟨#[c]⟩, x, a1, a2, a3, by show Option.map _ (z.cps[i]?) = _; rw [a4]; rfl, a5 xs q⟩⟩
theorem turn_Z {P : Program} {w : World} {K : PySem.W.Frag} {elts : List Expr} {kk : Nat} {tpos : Pos} (z : Str) (t0 : Tok) (a zz TI TO i1 i2 : Addr) (S : ZipSep2 zz TI TO i1 i2 [i1] [i2, a]) (hai : a ≠ i2) :
    Turn P w K (.Tuple elts kk tpos) (ItZ K z a) [zz, TI, TO, i1, i2] zz (fun i h => IsZip h zz TI TO .none ∧ IsTupOf2 h TI (.ref i1) (.ref i2) ∧ (∃ a1 a2, IsTupOf2 h TO a1 a2) ∧ h.IsStrIter i1 (strIterType z) z t0 i ∧ h.IsTupleIter i2 a i) where
  mem := List.mem_cons_self
  obj := fun i h st b hb => by
    obtain ⟨h1, h2, ⟨x1, x2, h3⟩, ⟨o4, h4, _, d4⟩, ⟨o5, h5, _, d5⟩⟩ := st
    have e : b = zz ∨ b = TI ∨ b = TO ∨ b = i1 ∨ b = i2 := by simpa using hb
    rcases e with y | y | y | y | y
    · rw [y]
      exact ⟨_, h1, fun v q => nomatch q⟩
    · rw [y]
      exact ⟨_, h2, fun v q => nomatch q⟩
    · rw [y]
      exact ⟨_, h3, fun v q => nomatch q⟩
    · rw [y]
      exact ⟨o4, h4, fun v q => by rw [d4] at q; cases q⟩
    · rw [y]
      exact ⟨o5, h5, fun v q => by rw [d5] at q; cases q⟩
  keep := fun i h h' st k => by
    obtain ⟨h1, h2, ⟨x1, x2, h3⟩, h4, h5⟩ := st
    exact ⟨k zz (by simp) _ h1, k TI (by simp) _ h2, ⟨x1, x2, k TO (by simp) _ h3⟩, (let ⟨o, e, r⟩ := h4; ⟨o, k i1 (by simp) _ e, r⟩), (let ⟨o, e, r⟩ := h5; ⟨o, k i2 (by simp) _ e, r⟩)⟩
  item := by
    intro X hP hw hK hc i pins s σ H E I hf st hg
    subst hP hw hK
    obtain ⟨xs, x, c, sq, hx, hcz⟩ := hg
    obtain ⟨its, rv, pt, _⟩ := I.tuple sq
    have D := WalksT.zipD2 (prog := X.prog) (w := X.w) (A := X.A) S (Draws.text (A := X.A.in1) (I.ok.hd hc) i1 z t0) (Draws.tuple (A := X.A.in1) (I.ok.hd hc) i2 a hai its.toArray)
    obtain ⟨u, hu, ru⟩ := rv.get hx
    have lt : i < min z.cps.size its.toArray.size := by
      have q2 := (List.getElem?_eq_some_iff.mp hu).1
      exact Nat.lt_min.mpr ⟨(Array.getElem?_eq_some_iff.mp hcz).1, q2⟩
    obtain ⟨k1, k2, k3, k4, k5⟩ := st
    refine D.item i s _ _ lt ⟨k1, k2, k3, k4, k5, pt⟩ fun T vals h1 tk hv hT tup mid m1 => ?_
    obtain ⟨v1, v2, ⟨c', tt, hc', rfl⟩, hy, rfl⟩ := hv
    obtain rfl : c' = c := Option.some.inj (hc'.symm.trans hcz)
    obtain rfl : v2 = u := by
      have : its[i]? = some v2 := by simpa using hy
      exact Option.some.inj (this.symm.trans hu)
    refine ⟨_, rfl, D.go elts kk tpos i T _ _ _ mid fun h2 st2 m2 => ?_⟩
    have tup2 : h2.IsTuple T #[.str ⟨#[c']⟩ tt, v2] := tup.at fun o q => m2 T o (D.apart i T h1 mid) q
    have wr : ∀ b, b ∉ [zz, TI, TO, i1, i2] → b ∉ [zz, TO, i1, i2] := fun b hb z => hb (by
      simp only [List.mem_cons, List.not_mem_nil, or_false] at z ⊢
      rcases z with z | z | z | z
      · exact .inl z
      · exact .inr (.inr (.inl z))
      · exact .inr (.inr (.inr (.inl z)))
      · exact .inr (.inr (.inr (.inr z))))
    have I1 : Inv X pins σ (upd H T (.tup [.str ⟨#[c']⟩, x])) { s with heap := h2, toks := tk } :=
      I.turnedNew (ch := [zz, TI, TO, i1, i2]) (fun b o hb q => m2 b o (wr b hb) (m1 b o (wr b hb) q)) hf hT ⟨by show 2 ≤ sizeLine; decide, [.str ⟨#[c']⟩ tt, v2], .cons ⟨_, rfl⟩ (.cons ru .nil), tup2⟩
    obtain ⟨n1, n2, n3, n4, n5, _⟩ := st2
    refine ⟨.ref T, _, I1, rfl, ⟨T, x, c', rfl, I.hok.fresh hT, rfl, hcz, fun ys hy => by rw [I.tuple_inj hy sq]; exact hx⟩, ⟨n1, n2, n3, n4, n5⟩, fun b hb => ?_⟩
    have lb : b < s.heap.objs.size := by
      obtain ⟨x1, x2, k3⟩ := k3
      obtain ⟨o4, h4, _⟩ := k4
      obtain ⟨o5, h5, _⟩ := k5
      have e : b = zz ∨ b = TI ∨ b = TO ∨ b = i1 ∨ b = i2 := by simpa using hb
      rcases e with y | y | y | y | y
      · rw [y]; exact Heap.lt_size k1
      · rw [y]; exact Heap.lt_size k2
      · rw [y]; exact Heap.lt_size k3
      · rw [y]; exact Heap.lt_size h4
      · rw [y]; exact Heap.lt_size h5
    rw [upd_ne (Nat.ne_of_lt (Nat.lt_of_lt_of_le lb hT))]
    exact (hf b hb).1
  done := by
    intro X hP hw hK hc i pins s σ H E I hf st hg
    subst hP hw hK
    obtain ⟨xs, sq, hx⟩ := hg
    obtain ⟨its, rv, pt, _⟩ := I.tuple sq
    have D := WalksT.zipD2 (prog := X.prog) (w := X.w) (A := X.A) S (Draws.text (A := X.A.in1) (I.ok.hd hc) i1 z t0) (Draws.tuple (A := X.A.in1) (I.ok.hd hc) i2 a hai its.toArray)
    have en : min z.cps.size its.toArray.size = i := by
      rw [hx, rv.length]
      rfl
    rw [← en] at st
    obtain ⟨k1, k2, k3, k4, k5⟩ := st
    refine D.done s _ _ ⟨k1, k2, k3, k4, k5, pt⟩ fun h1 tk m1 => ⟨rfl, I.turnedL (ch := [zz, TI, TO, i1, i2]) (fun b o hb q => m1 b o (fun z => hb ?_) q) hf⟩
    simp only [List.mem_cons, List.not_mem_nil, or_false] at z ⊢
    rcases z with z | z | z | z
    · exact .inl z
    · exact .inr (.inr (.inl z))
    · exact .inr (.inr (.inr (.inl z)))
    · exact .inr (.inr (.inr (.inr z)))
  self := fun A i s Q E st hQ => wpAny_pyIter_zip st.1 hQ
theorem ne_a {a b : Nat} (h : a < b ∨ b < a) : (a : Addr) ≠ (b : Addr) := fun e => by
  have e : a = b := e
  omega
theorem nin1 {x y : Addr} (h : x ≠ y) : x ∉ [y] := fun z => h (List.mem_singleton.mp z)
theorem nin2 {x y a : Addr} (h : x ≠ y) (k : x ≠ a) : x ∉ [y, a] := fun z => (List.mem_cons.mp z).elim h fun z => k (List.mem_singleton.mp z)
theorem sep_nat (N a : Nat) (h : a < N) : ZipSep2 (N + 4) (N + 2) (N + 3) N (N + 1) [N] [N + 1, a] :=
  ⟨ne_a (by omega), ne_a (by omega), ne_a (by omega), ne_a (by omega), List.mem_cons_self, nin1 (ne_a (by omega)), nin1 (ne_a (by omega)), ne_a (by omega), List.mem_cons_self, nin2 (ne_a (by omega)) (ne_a (by omega)), nin2 (ne_a (by omega)) (ne_a (by omega)), nin2 (ne_a (by omega)) (ne_a (by omega)), nin1 (ne_a (by omega))⟩
theorem le_nat (N b : Nat) (h : (b : Addr) ∈ ([N + 4, N + 2, N + 3, N, N + 1] : List Addr)) : N ≤ b := by
  have e : b = N + 4 ∨ b = N + 2 ∨ b = N + 3 ∨ b = N ∨ b = N + 1 := by
    rcases List.mem_cons.mp h with z | h
    · exact .inl z
    rcases List.mem_cons.mp h with z | h
    · exact .inr (.inl z)
    rcases List.mem_cons.mp h with z | h
    · exact .inr (.inr (.inl z))
    rcases List.mem_cons.mp h with z | h
    · exact .inr (.inr (.inr (.inl z)))
    · exact .inr (.inr (.inr (.inr (List.mem_singleton.mp h))))
  omega
theorem ne_nat (N a : Nat) (h : a < N) : (a : Addr) ≠ N + 1 := ne_a (by omega)
def iZipZ (K : PySem.W.Frag) (ta : TA) : TI := fun σ H R => ta σ H fun vs H1 => ∃ (z : Str) (a : Addr) (xs : List V), vs = [.str z, .ref a] ∧ SqT K H1 a xs ∧ R (ItZ K z a) H1
theorem pi_zipZ {X : Cx} (K : PySem.W.Frag) (hK : X.K = K) {e e2 : Expr} {ta : TA} {p pos tpos : Pos} {elts : List Expr} {kk : Nat} (hg : Gl X "zip") (hm : X.mg "zip" = none) (ha : PA X [e, e2] ta)
    (hs : starEach [e, e2] X.env = (false, eval e X.env) :: starEach [e2] X.env := by rfl) (hpl : (backTo pos (starEach [e2] X.env)).any (·.1) = false := by rfl) : PI X (.Tuple elts kk tpos) (.Call (.Name "zip" p) [e, e2] [] pos) (iZipZ K ta) := by
  subst hK
  refine ⟨fun pins s σ H R I h => ?_⟩
  refine Call_ (ld_blt I hg hm PyProof.Rows.boot_zip (PyProof.Rows.callWith_type1 (thn (ha.run pos pins s σ H _ I h) fun ws s2 ⟨vs, H2, I2, r2, q2⟩ => ?_) hs hpl))
  obtain ⟨z, a, xs, ex, sq, q⟩ := q2
  subst ex
  obtain ⟨u1, u2, rfl, ⟨t, rfl⟩, ra⟩ := r2.two
  obtain rfl : u2 = Value.ref a := ra
  obtain ⟨its, rv, pt, _⟩ := I2.tuple sq
  have la : a < s2.heap.objs.size := by
    have ⟨o, ho, _⟩ := pt
    exact Heap.lt_size ho
  refine zip_begins2 (begins_text z t) (begins_tuple a its.toArray) trivial pt fun h' hz hTI hTO h1 h2 _ hk => wpAny_pyIter_zip hz ?_
  have I3 : Inv X pins σ H2 { s2 with heap := h' } := I2.kept (t' := s2.toks) hk
  refine ⟨s2.heap.objs.size + 4, [s2.heap.objs.size + 4, s2.heap.objs.size + 2, s2.heap.objs.size + 3, s2.heap.objs.size, s2.heap.objs.size + 1], _, _, H2, rfl, I3, turn_Z z t a _ _ _ _ _ (sep_nat s2.heap.objs.size a la) (ne_nat s2.heap.objs.size a la), ⟨hz, hTI, ⟨_, _, hTO⟩, ⟨_, h1, rfl, rfl⟩, ⟨_, h2, rfl, rfl⟩⟩, fun b hb => ?_, q⟩
  have le := le_nat s2.heap.objs.size b hb
  exact I2.fpOk le (I2.hok.fresh le)
end LH

namespace LU
open PySem PySem.Spec PyProof.Rows
/-! ### dicts whose keys are None, numbers, texts and tuples of these, nested -/
abbrev Row3 := NestedKey × Value × Value
def ent (w : World) (x : Row3) : DictEntry := ⟨x.1.hash w, x.2.1, x.2.2⟩
structure UD (w : World) (h : Heap) (d : Addr) (xs : List Row3) (o : Obj) (es : Array DictEntry) (ep : Nat) : Prop where
  get : h.get? d = some o
  exact_ : o.ExactDict
  data : o.data = .dict es ep
  ents : es.toList = xs.map (ent w)
  keys : ∀ x ∈ xs, NestedIs h x.1 x.2.1 ∧ x.1.depth ≤ 8
  nd : (xs.map (·.1)).Nodup
def pos (xs : List Row3) (k : NestedKey) : Option Nat := xs.findIdx? fun x => decide (x.1 = k)
theorem pos_some {xs : List Row3} (nd : (xs.map (·.1)).Nodup) {i : Nat} {x : Row3} (h : xs[i]? = some x) : pos xs x.1 = some i := by
  unfold pos
  rw [List.findIdx?_eq_some_iff_getElem]
  obtain ⟨hi, e⟩ := List.getElem?_eq_some_iff.mp h
  refine ⟨hi, by rw [e]; exact decide_eq_true rfl, fun j hj => ?_⟩
  have hjl : j < xs.length := Nat.lt_trans hj hi
  intro q
  have q : xs[j].1 = x.1 := of_decide_eq_true q
  have a1 : (xs.map (·.1))[j]? = some x.1 := by rw [List.getElem?_map, List.getElem?_eq_getElem hjl, Option.map_some, q]
  have a2 : (xs.map (·.1))[i]? = some x.1 := by rw [List.getElem?_map, h]; rfl
  have := (List.getElem?_inj (by rw [List.length_map]; exact hjl) nd).mp (a1.trans a2.symm)
  omega
theorem pos_none {xs : List Row3} {k : NestedKey} (h : ∀ x ∈ xs, ¬ x.1 = k) : pos xs k = none := List.findIdx?_eq_none_iff.mpr fun x hx => decide_eq_false (h x hx)
section
variable {prog : Program} {w : World} {A : Around} {E : Value → Shared → Prop} {s : Shared} {d : Addr} {xs : List Row3} {o : Obj} {es : Array DictEntry} {ep : Nat} {k : NestedKey} {key : Value}
theorem UD.at_ {h : Heap} (u : UD w h d xs o es ep) (j : Nat) : es[j]? = (xs[j]?).map (ent w) := by
  rw [← Array.getElem?_toList, u.ents, List.getElem?_map]
theorem UD.size {h : Heap} (u : UD w h d xs o es ep) : es.size = xs.length := by
  rw [← Array.length_toList, u.ents, List.length_map]
/-- where a key of this hash may stand -/
abbrev plc (es : Array DictEntry) (h : Int) : List Nat := placesWithHash es.size (fun i => es[i]?.map (·.hash)) h
theorem mem_plc {h : Heap} (u : UD w h d xs o es ep) {j : Nat} {x : Row3} (e : xs[j]? = some x) : j ∈ plc es (x.1.hash w) := by
  refine List.mem_filter.mpr ⟨List.mem_range.mpr ?_, ?_⟩
  · rw [u.size]
    exact (List.getElem?_eq_some_iff.mp e).1
  · show ((es[j]?.map (·.hash)) == some (x.1.hash w)) = true
    rw [u.at_, e]
    exact beq_self_eq_true _
theorem nd_plc (es : Array DictEntry) (h : Int) : (plc es h).Nodup := List.nodup_range.filter _
/-- the way through the places, all by value -/
theorem walk_plain {Q : Option Nat → Shared → Prop} (hu : A.units + 8 < cLine) (u : UD w s.heap d xs o es ep) (hk : NestedIs s.heap k key) (hd8 : k.depth ≤ 8) (h : Q (pos xs k) s) :
    wpAny (model prog w) A (dictWalkPlain d key (k.hash w) es (plc es (k.hash w))) Q E s := by
  unfold dictWalkPlain
  refine wpAny_bind ?_
  refine wpAny_forIn_list _ (fun rest b s' => s' = s ∧ b = (none, ()) ∧ ∀ (j : Nat) (x : Row3), xs[j]? = some x → x.1 = k → j ∈ rest) _ ?_ ?_ _ _ ⟨rfl, rfl, fun j x e ek => by rw [← ek]; exact mem_plc u e⟩
  · rintro i rest b s' ⟨rfl, rfl, hr⟩
    rw [u.at_]
    cases hx : xs[i]? with
    | none =>
      refine wpAny_pure ⟨rfl, rfl, fun j x e ek => ?_⟩
      rcases List.mem_cons.mp (hr j x e ek) with rfl | q
      · rw [hx] at e
        cases e
      · exact q
    | some y =>
      have on : ¬ y.1 = k → ∀ (j : Nat) (x : Row3), xs[j]? = some x → x.1 = k → j ∈ rest := fun ne j x e ek => by
        rcases List.mem_cons.mp (hr j x e ek) with rfl | q
        · rw [hx] at e
          cases e
          exact absurd ek ne
        · exact q
      dsimp only [Option.map_some]
      by_cases hh : ((ent w y).hash == k.hash w) = true
      · rw [if_pos hh]
        have hy := u.keys y (List.mem_of_getElem? hx)
        refine wpAny_bind (wpAny_dictEpoch u.get u.data (wpAny_bind (eqAt_key y.1 k A s' _ _ hy.1 hk (by omega) _ _ _ _ (wpAny_bind (wpAny_dictEpoch u.get u.data ?_)))))
        show wpAny _ _ (if (ep != ep) = true then _ else _) _ E _
        rw [if_neg (by simp), ← NestedKey.decide_eq]
        by_cases e : y.1 = k
        · rw [decide_eq_true e]
          subst e
          rw [pos_some u.nd hx] at h
          exact wpAny_bind (wpAny_rule (wpAny_pure (wpAny_pure h)))
        · rw [decide_eq_false e]
          exact wpAny_bind (wpAny_rule (wpAny_pure ⟨rfl, rfl, on e⟩))
      · rw [if_neg hh]
        refine wpAny_pure ⟨rfl, rfl, on fun e => hh ?_⟩
        show (y.1.hash w == k.hash w) = true
        rw [e]
        exact beq_self_eq_true _
  · rintro b s' ⟨rfl, rfl, hr⟩
    rw [pos_none fun x hx e => ?_] at h
    · exact wpAny_pure h
    · obtain ⟨j, hj⟩ := List.mem_iff_getElem?.mp hx
      cases hr j x hj e
end
end LU
namespace LU
open PySem PySem.Spec PyProof.Rows
section
variable {prog : Program} {w : World} {A : Around} {E : Value → Shared → Prop} {s : Shared} {d : Addr} {xs : List Row3} {o : Obj} {es : Array DictEntry} {ep : Nat} {k : NestedKey} {key : Value}
theorem fi_congr {p q : Row3 → Bool} : ∀ {xs : List Row3}, (∀ x ∈ xs, p x = q x) → xs.findIdx? p = xs.findIdx? q
  | [], _ => rfl
  | x :: r, h => by
    rw [List.findIdx?_cons, List.findIdx?_cons, h x List.mem_cons_self, fi_congr fun y hy => h y (List.mem_cons_of_mem _ hy)]
theorem found_val {x : Str} {t : Tok} {Q : Option Nat → Shared → Prop} (hu : A.units + 8 < cLine) (u : UD w s.heap d xs o es ep) (hs : ∀ y ∈ xs, isExactStrKey y.2.1 = true) (h : Q (pos xs (.text x)) s) :
    wpAny (model prog w) A (foundByValue d (.str x t) es x) Q E s := by
  have same : ∀ y ∈ xs, y.2.1.isStr x = decide (y.1 = .text x) := fun y hy => by
    have a := hs y hy
    have b := (u.keys y hy).1
    obtain ⟨k', v', z⟩ := y
    cases b with
    | text x' t' =>
      by_cases e : x' = x
      · subst e
        simp [Value.isStr]
      · have : ¬ NestedKey.text x' = NestedKey.text x := fun q => e (by injection q)
        rw [decide_eq_false this]
        simp [Value.isStr, e]
    | none => simp [isExactStrKey] at a
    | bool _ => simp [isExactStrKey] at a
    | int _ _ => simp [isExactStrKey] at a
    | tup _ _ _ _ => simp [isExactStrKey] at a
  have fi : (es.findIdx? fun e => e.key.isStr x) = pos xs (.text x) := by
    have : es.findIdx? (fun e => e.key.isStr x) = es.toList.findIdx? fun e => e.key.isStr x := by
      obtain ⟨l⟩ := es
      simp
    rw [this, u.ents, List.findIdx?_map]
    unfold pos
    exact fi_congr same
  unfold foundByValue
  rw [fi]
  cases hp : pos xs (.text x) with
  | none =>
    rw [hp] at h
    exact wpAny_pure h
  | some i =>
    rw [hp] at h
    obtain ⟨hi, e, _⟩ := List.findIdx?_eq_some_iff_getElem.mp hp
    have e : xs[i].1 = .text x := of_decide_eq_true e
    have hx : xs[i]? = some xs[i] := List.getElem?_eq_getElem hi
    dsimp only
    rw [u.at_, hx]
    have hy := u.keys _ (List.mem_of_getElem? hx)
    refine wpAny_bind (wpAny_dictEpoch u.get u.data (wpAny_bind (eqAt_key _ (.text x) A s _ _ hy.1 (.text x t) (by show A.units + min _ 0 < cLine; omega) _ _ _ _ (wpAny_bind (wpAny_dictEpoch u.get u.data ?_)))))
    show wpAny _ _ (if (ep != ep) = true then _ else _) _ E _
    rw [if_neg (by simp), ← NestedKey.decide_eq, decide_eq_true e]
    exact wpAny_bind (wpAny_rule (wpAny_pure h))
theorem may_tell {stored : List Value} {Q : Bool → Shared → Prop} (hk : NestedIs s.heap k key) (hd8 : k.depth ≤ 8) (hst : ∀ v ∈ stored, ∃ k', NestedIs s.heap k' v ∧ k'.depth ≤ 8) (h : Q false s) :
    wpAny (model prog w) A (tableMayTell key stored) Q E s := by
  unfold tableMayTell
  split
  · exact wpAny_pure h
  · refine wpAny_bind (quiet_key k key 8 s hk hd8 _ _ _ ?_)
    rw [Bool.not_true, if_neg Bool.false_ne_true]
    refine wpAny_bind ?_
    refine wpAny_forIn_list _ (fun rest b s' => s' = s ∧ b = (none, ()) ∧ ∀ v ∈ rest, v ∈ stored) _ ?_ ?_ _ _ ⟨rfl, rfl, fun _ q => q⟩
    · rintro v rest b s' ⟨rfl, rfl, hr⟩
      obtain ⟨k', a1, a2⟩ := hst v (hr v List.mem_cons_self)
      refine wpAny_bind (quiet_key k' v 8 s' a1 a2 _ _ _ ?_)
      rw [Bool.not_true, if_neg Bool.false_ne_true]
      exact wpAny_pure ⟨rfl, rfl, fun u q => hr u (List.mem_cons_of_mem _ q)⟩
    · rintro b s' ⟨rfl, rfl, _⟩
      exact wpAny_pure h
/-- a key is looked for -/
theorem find_u {Q : Option Nat → Shared → Prop} (hu : A.units + 8 < cLine) (u : UD w s.heap d xs o es ep) (hk : NestedIs s.heap k key) (hd8 : k.depth ≤ 8) (h : Q (pos xs k) s) :
    wpAny (model prog w) A (dictFind d key (k.hash w)) Q E s := by
  have row : ∀ e ∈ es, ∃ x ∈ xs, e = ent w x := fun e he => by
    have := Array.mem_toList_iff.mpr he
    rw [u.ents] at this
    obtain ⟨x, hx, q⟩ := List.mem_map.mp this
    exact ⟨x, hx, q.symm⟩
  have st : ∀ v ∈ (plc es (k.hash w)).filterMap (fun i => es[i]?.map (·.key)), ∃ k', NestedIs s.heap k' v ∧ k'.depth ≤ 8 := fun v hv => by
    obtain ⟨i, _, hi⟩ := List.mem_filterMap.mp hv
    rw [u.at_] at hi
    cases hx : xs[i]? with
    | none =>
      rw [hx] at hi
      cases hi
    | some x =>
      rw [hx] at hi
      have := u.keys x (List.mem_of_getElem? hx)
      cases hi
      exact ⟨x.1, this⟩
  have noch : ¬ (es.any fun e => e.key == key && e.hash != k.hash w) = true := fun z => by
    obtain ⟨e, he, q⟩ := Array.any_eq_true'.mp z
    obtain ⟨x, hx, rfl⟩ := row e he
    rw [Bool.and_eq_true, beq_iff_eq, bne_iff_ne] at q
    have a := (u.keys x hx).1
    rw [show x.2.1 = key from q.1] at a
    exact q.2 (congrArg (fun z => NestedKey.hash w z) (NestedIs.inj _ _ _ a hk))
  unfold dictFind
  with_reducible refine wpAny_holding ?_
  refine wpAny_bind (wpAny_dictEntries u.get u.data ?_)
  dsimp only
  have val : (key :: (plc es (k.hash w)).filterMap fun i => es[i]?.map (·.key)).all carriedByValue = true → wpAny (model prog w) A (dictWalkPlain d key (k.hash w) es (plc es (k.hash w))) Q E s := fun _ => walk_plain hu u hk hd8 h
  by_cases ex : ∃ x t, key = .str x t ∧ (es.all fun e => isExactStrKey e.key) = true
  · obtain ⟨x, t, rfl, a⟩ := ex
    dsimp only
    rw [if_pos a]
    cases hk
    refine found_val hu u (fun y hy => ?_) h
    rw [← Array.all_toList, List.all_eq_true] at a
    exact a (ent w y) (by rw [u.ents]; exact List.mem_map.mpr ⟨y, hy, rfl⟩)
  have step1 : ∀ (F : Str → Sem (Option Nat)) (G : Sem (Option Nat)), wpAny (model prog w) A G Q E s → wpAny (model prog w) A (match key with | .str x _ => if (es.all fun e => isExactStrKey e.key) = true then F x else G | _ => G) Q E s := fun F G q => by
    split
    · rw [if_neg fun a => ex ⟨_, _, rfl, a⟩]
      exact q
    · exact q
  refine step1 (fun x => foundByValue d key es x) _ ?_
  by_cases hall : (key :: (plc es (k.hash w)).filterMap fun i => es[i]?.map (·.key)).all carriedByValue = true
  · rw [if_pos hall]
    exact val hall
  rw [if_neg hall]
  have step2 : ∀ (F G : Sem (Option Nat)), wpAny (model prog w) A G Q E s → wpAny (model prog w) A (match key with | .ref _ => if (es.any fun e => e.key == key && e.hash != k.hash w) = true then F else G | _ => G) Q E s := fun F G q => by
    split
    · rw [if_neg noch]
      exact q
    · exact q
  refine step2 _ _ ?_
  by_cases one : (((plc es (k.hash w)).filterMap fun i => es[i]?.map (·.key)) == [key]) = true <;>
  (first | rw [if_pos one] | rw [if_neg one]) <;> (first | refine wpAny_bind (wpAny_pure ?_) | refine wpAny_bind (may_tell hk hd8 st ?_)) <;> (
    rw [if_neg (by simp)]
    refine wpAny_bind ?_
    refine wpAny_forIn_list _ (fun rest b s' => s' = s ∧ rest.Nodup ∧ ∃ hit, b = (none, hit) ∧ ((hit = none ∧ ∀ (j : Nat) (x : Row3), xs[j]? = some x → x.1 = k → j ∈ rest) ∨ ∃ j x, hit = some j ∧ xs[j]? = some x ∧ x.1 = k ∧ j ∉ rest)) _ ?_ ?_ _ _ ⟨rfl, nd_plc _ _, none, rfl, .inl ⟨rfl, fun j x e ek => by rw [← ek]; exact mem_plc u e⟩⟩
    · rintro i rest b s' ⟨rfl, ndr, hit, rfl, hr⟩
      obtain ⟨ni, ndr⟩ := List.nodup_cons.mp ndr
      have on : (∀ y, xs[i]? = some y → ¬ y.1 = k) → ((hit = none ∧ ∀ (j : Nat) (x : Row3), xs[j]? = some x → x.1 = k → j ∈ rest) ∨ ∃ j x, hit = some j ∧ xs[j]? = some x ∧ x.1 = k ∧ j ∉ rest) := fun ne => by
        rcases hr with ⟨a, b⟩ | ⟨j, x, a, b, c, e⟩
        · refine .inl ⟨a, fun j x e ek => ?_⟩
          rcases List.mem_cons.mp (b j x e ek) with rfl | q
          · exact absurd ek (ne x e)
          · exact q
        · exact .inr ⟨j, x, a, b, c, fun z => e (List.mem_cons_of_mem _ z)⟩
      rw [u.at_]
      cases hx : xs[i]? with
      | none => exact wpAny_pure ⟨rfl, ndr, hit, rfl, on fun y e => by rw [hx] at e; cases e⟩
      | some y =>
        dsimp only [Option.map_some]
        by_cases hh : ((ent w y).hash == k.hash w) = true
        · rw [if_pos hh]
          have hy := u.keys y (List.mem_of_getElem? hx)
          refine wpAny_bind (wpAny_dictEpoch u.get u.data (wpAny_bind (eqAt_key y.1 k A s' _ _ hy.1 hk (by omega) _ _ _ _ (wpAny_bind (wpAny_dictEpoch u.get u.data ?_)))))
          show wpAny _ _ (if (ep != ep) = true then _ else _) _ E _
          rw [if_neg (by simp), ← NestedKey.decide_eq]
          by_cases e : y.1 = k
          · rw [decide_eq_true e]
            subst e
            have h0 : hit = none := by
              rcases hr with ⟨a, _⟩ | ⟨j, x, a, b, c, e⟩
              · exact a
              · exfalso
                have e1 := pos_some u.nd b
                have e2 := pos_some u.nd hx
                rw [c, e2] at e1
                cases e1
                exact e List.mem_cons_self
            subst h0
            rw [if_pos rfl, if_neg (by simp)]
            refine wpAny_bind (wpAny_rule ?_)
            split
            · rw [pos_some u.nd hx] at h
              exact wpAny_pure (wpAny_pure h)
            · exact wpAny_pure ⟨rfl, ndr, some i, rfl, .inr ⟨i, y, rfl, hx, rfl, ni⟩⟩
          · rw [decide_eq_false e, if_neg Bool.false_ne_true]
            refine wpAny_bind (wpAny_rule ?_)
            rw [if_neg (by simp)]
            exact wpAny_pure ⟨rfl, ndr, hit, rfl, on fun y' e' => by rw [hx] at e'; cases e'; exact e⟩
        · rw [if_neg hh]
          refine wpAny_pure ⟨rfl, ndr, hit, rfl, on fun y' e' ek => hh ?_⟩
          rw [hx] at e'
          cases e'
          show (y.1.hash w == k.hash w) = true
          rw [ek]
          exact beq_self_eq_true _
    · rintro b s' ⟨rfl, _, hit, rfl, hr⟩
      rcases hr with ⟨rfl, b⟩ | ⟨j, x, rfl, b, c, _⟩
      · rw [pos_none fun x hx e => ?_] at h
        · exact wpAny_pure h
        · obtain ⟨j, hj⟩ := List.mem_iff_getElem?.mp hx
          cases b j x hj e
      · subst c
        rw [pos_some u.nd b] at h
        exact wpAny_pure h)
end
end LU
namespace LU
open PySem PySem.Spec PyProof.Rows
def valU (xs : List Row3) (k : NestedKey) : Option Value := (pos xs k).bind fun i => (xs[i]?).map (·.2.2)
def setU (xs : List Row3) (k : NestedKey) (key v : Value) : List Row3 :=
  match pos xs k with
  | some i => xs.modify i fun x => (x.1, x.2.1, v)
  | none => xs ++ [(k, key, v)]
theorem pos_is {xs : List Row3} {k : NestedKey} {i : Nat} (h : pos xs k = some i) : ∃ x, xs[i]? = some x ∧ x.1 = k := by
  obtain ⟨hi, e, _⟩ := List.findIdx?_eq_some_iff_getElem.mp h
  exact ⟨_, List.getElem?_eq_getElem hi, of_decide_eq_true e⟩
section
variable {prog : Program} {w : World} {A : Around} {E : Value → Shared → Prop} {s : Shared} {d : Addr} {xs : List Row3} {o : Obj} {es : Array DictEntry} {ep : Nat} {k : NestedKey} {key : Value}
theorem keys_on {h h' : Heap} {x : NestedKey × Value} (u : UD w h d xs o es ep) (hs : Heap.SameBut d h h') (q : NestedIs h x.1 x.2 ∧ x.1.depth ≤ 8) : NestedIs h' x.1 x.2 ∧ x.1.depth ≤ 8 := by
  refine ⟨NestedIs.at (fun b ob vs n hb hc => ?_) _ _ q.1, q.2⟩
  by_cases e : b = d
  · subst e
    rw [u.get] at hb
    cases hb
    rw [u.data] at hc
    cases hc
  · exact (hs.2 b e).trans hb
theorem get_u {Q : Option Value → Shared → Prop} (hu : A.units + 8 < cLine) (u : UD w s.heap d xs o es ep) (hk : NestedIs s.heap k key) (hd8 : k.depth ≤ 8) (h : Q (valU xs k) { s with toks := s.toks + k.draws }) : wpAny (model prog w) A (dictGet d key) Q E s := by
  unfold dictGet
  with_reducible refine wpAny_holding ?_
  refine wpAny_bind (pyHash_key k key A s _ hk (by omega) (wpAny_bind (find_u (s := { s with toks := s.toks + k.draws }) hu u hk hd8 ?_)))
  unfold valU at h
  cases hp : pos xs k with
  | none =>
    rw [hp] at h
    exact wpAny_pure h
  | some i =>
    rw [hp] at h
    obtain ⟨x, hx, _⟩ := pos_is hp
    refine wpAny_bind (wpAny_dictEntries (s := { s with toks := s.toks + k.draws }) u.get u.data ?_)
    rw [u.at_, hx]
    rw [Option.bind_some, hx] at h
    exact wpAny_pure h
theorem UD.type {s : Shared} (u : UD w s.heap d xs o es ep) : s.TypeIs (.ref d) "dict" := ⟨o, u.get, u.exact_.1⟩
theorem set_u {v : Value} {Q : Unit → Shared → Prop} (hu : A.units + 8 < cLine) (u : UD w s.heap d xs o es ep) (hk : NestedIs s.heap k key) (hd8 : k.depth ≤ 8) (hsz : xs.length ≤ sizeLine)
    (h : ∀ h' o' es' ep', UD w h' d (setU xs k key v) o' es' ep' → Heap.SameBut d s.heap h' → Q () { s with heap := h', toks := s.toks + k.draws }) : wpAny (model prog w) A (dictSet d key v) Q E s := by
  unfold dictSet
  with_reducible refine wpAny_holding ?_
  refine wpAny_bind (pyHash_key k key A s _ hk (by omega) ?_)
  unfold dictSetHashed
  with_reducible refine wpAny_holding ?_
  refine wpAny_bind (find_u (s := { s with toks := s.toks + k.draws }) hu u hk hd8 ?_)
  cases hp : pos xs k with
  | none =>
    refine wpAny_bind (wpAny_rule (wpAny_updateDictKeys (hz := by have e := u.size; omega) (s := { s with toks := s.toks + k.draws }) u.get u.data (h _ _ _ (ep + 1) ⟨Heap.get?_update_self _ u.get (Obj.isFreed_of_dict (Obj.data_mapDictKeys u.data _)), u.exact_.mapDictKeys _, Obj.data_mapDictKeys u.data _, ?_, ?_, ?_⟩ (Heap.SameBut.update ..))))
    all_goals unfold setU
    all_goals rw [hp]
    · rw [Array.toList_push, u.ents, List.map_append]
      rfl
    · intro x hx
      rcases List.mem_append.mp hx with q | q
      · exact keys_on (x := (x.1, x.2.1)) u (Heap.SameBut.update ..) (u.keys x q)
      · rw [List.mem_singleton.mp q]
        exact keys_on (x := (k, key)) u (Heap.SameBut.update ..) ⟨hk, hd8⟩
    · show ((xs ++ [(k, key, v)]).map (·.1)).Nodup
      rw [List.map_append]
      refine List.nodup_append.mpr ⟨u.nd, by simp, fun a ha b hb e => ?_⟩
      rw [List.map_singleton, List.mem_singleton] at hb
      obtain ⟨x, hx, rfl⟩ := List.mem_map.mp ha
      have := List.findIdx?_eq_none_iff.mp hp x hx
      exact absurd (e.trans hb) (of_decide_eq_false this)
  | some i =>
    obtain ⟨x, hx, hxk⟩ := pos_is hp
    refine wpAny_bind (wpAny_rule (wpAny_bind (wpAny_updateDict (s := { s with toks := s.toks + k.draws }) u.get u.data (wpAny_point (h _ _ _ ep ⟨Heap.get?_update_self _ u.get (Obj.isFreed_of_dict (Obj.data_mapDict u.data _)), u.exact_.mapDict _, Obj.data_mapDict u.data _, ?_, ?_, ?_⟩ (Heap.SameBut.update ..))))))
    all_goals unfold setU
    all_goals rw [hp]
    · refine List.ext_getElem? fun j => ?_
      rw [Array.toList_modify, u.ents, List.getElem?_map, List.getElem?_modify, List.getElem?_modify, List.getElem?_map]
      cases xs[j]? with
      | none => rfl
      | some y =>
        by_cases e : i = j
        · simp [e, ent]
        · simp [e, ent]
    · intro y hy
      obtain ⟨j, hj⟩ := List.mem_iff_getElem?.mp hy
      rw [List.getElem?_modify] at hj
      cases hz : xs[j]? with
      | none =>
        rw [hz] at hj
        cases hj
      | some z =>
        rw [hz] at hj
        have kz : ∀ f : Obj → Obj, NestedIs (s.heap.update d f) z.1 z.2.1 ∧ z.1.depth ≤ 8 := fun f => keys_on (x := (z.1, z.2.1)) u (Heap.SameBut.update _ _ f) (u.keys z (List.mem_of_getElem? hz))
        by_cases e : i = j
        · simp [e] at hj
          subst hj
          exact kz _
        · simp [e] at hj
          subst hj
          exact kz _
    · have : ((xs.modify i fun x => (x.1, x.2.1, v)).map (·.1)) = xs.map (·.1) := by
        refine List.ext_getElem? fun j => ?_
        rw [List.getElem?_map, List.getElem?_map, List.getElem?_modify]
        cases xs[j]? with
        | none => rfl
        | some y =>
          by_cases e : i = j
          · simp [e]
          · simp [e]
      show ((xs.modify i fun x => (x.1, x.2.1, v)).map (·.1)).Nodup
      rw [this]
      exact u.nd
/-- key in d -/
theorem in_u {Q : Value → Shared → Prop} (hu : A.in1.units + 8 < cLine) (hd : (d == sysModules) = false) (u : UD w s.heap d xs o es ep) (hk : NestedIs s.heap k key) (hd8 : k.depth ≤ 8)
    (h : Q (.bool (valU xs k).isSome) { s with toks := s.toks + k.draws }) : wpAny (model prog w) A (compareOp .In key (.ref d)) Q E s := by
  show wpAny _ _ (do return .bool (← contains (.ref d) key)) Q E s
  refine wpAny_bind ?_
  unfold contains
  with_reducible refine wpAny_holding ?_
  refine wpAny_bind (wpAny_specialOf u.type slot_dict_contains.lookup ?_)
  show wpAny _ _ (if (some (Value.builtin "dict.__contains__") == some Value.none) = true then _ else _) _ E s
  rw [if_neg (by rw [beq_builtin_none]; exact Bool.false_ne_true)]
  refine wpAny_bind (wpAny_callSpecialUnlessNone?_slot (name := Str.ofString "__contains__") u.type slot_dict_contains (wpAny_call_entry slot_dict_contains u.type entry_dict_contains ?_ (args_dict_contains _ _)))
  show wpAny _ _ (dictGet d key >>= _) _ _ s
  refine wpAny_bind (get_u hu u hk hd8 ?_)
  cases hf : valU xs k with
  | some p =>
    rw [hf] at h
    show wpAny _ _ (ret (.bool true)) _ _ _
    exact wpAny_pure ⟨_, rfl, wpAny_truthy_bool (wpAny_pure h)⟩
  | none =>
    rw [hf] at h
    show wpAny _ _ (Builtin.Dict.pendingKey? d key >>= _) _ _ _
    exact wpAny_bind (wpAny_pendingKey_other hd (wpAny_pure ⟨_, rfl, wpAny_truthy_bool (wpAny_pure h)⟩))
/-- key not in d -/
theorem notIn_u {Q : Value → Shared → Prop} (hu : A.in1.units + 8 < cLine) (hd : (d == sysModules) = false) (u : UD w s.heap d xs o es ep) (hk : NestedIs s.heap k key) (hd8 : k.depth ≤ 8)
    (h : Q (.bool (!(valU xs k).isSome)) { s with toks := s.toks + k.draws }) : wpAny (model prog w) A (compareOp .NotIn key (.ref d)) Q E s := by
  show wpAny _ _ (do return .bool (!(← contains (.ref d) key))) Q E s
  refine wpAny_bind ?_
  unfold contains
  with_reducible refine wpAny_holding ?_
  refine wpAny_bind (wpAny_specialOf u.type slot_dict_contains.lookup ?_)
  show wpAny _ _ (if (some (Value.builtin "dict.__contains__") == some Value.none) = true then _ else _) _ E s
  rw [if_neg (by rw [beq_builtin_none]; exact Bool.false_ne_true)]
  refine wpAny_bind (wpAny_callSpecialUnlessNone?_slot (name := Str.ofString "__contains__") u.type slot_dict_contains (wpAny_call_entry slot_dict_contains u.type entry_dict_contains ?_ (args_dict_contains _ _)))
  show wpAny _ _ (dictGet d key >>= _) _ _ s
  refine wpAny_bind (get_u hu u hk hd8 ?_)
  cases hf : valU xs k with
  | some p =>
    rw [hf] at h
    show wpAny _ _ (ret (.bool true)) _ _ _
    exact wpAny_pure ⟨_, rfl, wpAny_truthy_bool (wpAny_pure h)⟩
  | none =>
    rw [hf] at h
    show wpAny _ _ (Builtin.Dict.pendingKey? d key >>= _) _ _ _
    exact wpAny_bind (wpAny_pendingKey_other hd (wpAny_pure ⟨_, rfl, wpAny_truthy_bool (wpAny_pure h)⟩))
/-- d[key] -/
theorem item_u {v : Value} {Q : Value → Shared → Prop} (hu : A.in1.units + 8 < cLine) (u : UD w s.heap d xs o es ep) (hk : NestedIs s.heap k key) (hd8 : k.depth ≤ 8) (hv : valU xs k = some v)
    (h : Q v { s with toks := s.toks + k.draws }) : wpAny (model prog w) A (getItem (.ref d) key) Q E s := by
  unfold getItem
  with_reducible refine wpAny_holding ?_
  refine wpAny_bind (wpAny_sequenceKey u.type (by decide) ?_)
  refine wpAny_bind (wpAny_callSpecial?_slot (name := Str.ofString "__getitem__") u.type slot_dict_getitem (wpAny_call_entry slot_dict_getitem u.type entry_dict_getitem ?_ (args_dict_getitem _ _)))
  show wpAny _ _ (dictGet d key >>= _) _ _ s
  refine wpAny_bind (get_u hu u hk hd8 ?_)
  rw [hv]
  exact wpAny_pure ⟨v, rfl, wpAny_pure h⟩
/-- d[key] = v -/
theorem setItem_u {v : Value} {Q : Unit → Shared → Prop} (hu : A.in1.units + 8 < cLine) (u : UD w s.heap d xs o es ep) (hk : NestedIs s.heap k key) (hd8 : k.depth ≤ 8) (hsz : xs.length ≤ sizeLine)
    (h : ∀ h' o' es' ep', UD w h' d (setU xs k key v) o' es' ep' → Heap.SameBut d s.heap h' → Q () { s with heap := h', toks := s.toks + k.draws }) : wpAny (model prog w) A (setItem (.ref d) key v) Q E s := by
  unfold setItem
  with_reducible refine wpAny_holding ?_
  refine wpAny_bind (wpAny_sequenceKey u.type (by decide) ?_)
  refine wpAny_bind (wpAny_callSpecial?_slot (name := Str.ofString "__setitem__") u.type slot_dict_setitem (wpAny_call_entry slot_dict_setitem u.type entry_dict_setitem ?_ (args_dict_setitem _ _ _)))
  show wpAny _ _ (Builtin.Dict.notOrdered "__setitem__" ⟨[.ref d, key, v], []⟩ >>= _) _ _ s
  refine wpAny_bind (wpAny_notOrdered_dict u.type ?_)
  show wpAny _ _ (dictSet d key v >>= _) _ _ s
  exact wpAny_bind (set_u hu u hk hd8 hsz fun h' o' es' ep' a b => wpAny_pure ⟨.none, rfl, wpAny_pure (h h' o' es' ep' a b)⟩)
end
end LU

namespace LU
open PySem PySem.Spec PyProof.Rows L2
/-! ### the same over the abstract heap -/
mutual
inductive NV (H : Hp) : NestedKey → V → Prop
  | none : NV H .none .non
  | num (i : Int) : NV H (.num i) (.int i)
  | text (x : Str) : NV H (.text x) (.str x)
  | tup {a : Addr} {vs : List V} {ks : List NestedKey} : H a = some (.tup vs) → NVs H ks vs → NV H (.tup ks) (.ref a)
inductive NVs (H : Hp) : List NestedKey → List V → Prop
  | nil : NVs H [] []
  | cons {k : NestedKey} {v : V} {ks : List NestedKey} {vs : List V} : NV H k v → NVs H ks vs → NVs H (k :: ks) (v :: vs)
end
mutual
theorem NV.mono {H H' : Hp} (t : ∀ b xs, H b = some (.tup xs) → H' b = some (.tup xs)) : ∀ {k : NestedKey} {v : V}, NV H k v → NV H' k v
  | _, _, .none => .none
  | _, _, .num i => .num i
  | _, _, .text x => .text x
  | _, _, .tup h q => .tup (t _ _ h) (NVs.mono t q)
theorem NVs.mono {H H' : Hp} (t : ∀ b xs, H b = some (.tup xs) → H' b = some (.tup xs)) : ∀ {ks : List NestedKey} {vs : List V}, NVs H ks vs → NVs H' ks vs
  | _, _, .nil => .nil
  | _, _, .cons a b => .cons (NV.mono t a) (NVs.mono t b)
end
mutual
theorem NV.is {P : Program} {w : World} {H : Hp} {h : Heap} (ok : HOk P w H h) : ∀ {k : NestedKey} {v : V}, NV H k v → ∀ {u : Value}, RelV v u → NestedIs h k u
  | _, _, .none, u, r => by
    obtain rfl : u = Value.none := r
    exact .none
  | _, _, .num i, u, r => by
    obtain ⟨t, rfl⟩ : ∃ t, u = Value.int i t := r
    exact .int i t
  | _, _, .text x, u, r => by
    obtain ⟨t, rfl⟩ : ∃ t, u = Value.str x t := r
    exact .text x t
  | _, _, .tup (a := a) hh q, u, r => by
    obtain rfl : u = Value.ref a := r
    obtain ⟨_, its, rv, o, h1, h2, n, h3⟩ := (show ObjOk P w H h a (.tup _) from ok a _ hh)
    exact .tup h1 h2 h3 (by simpa using NVs.is ok q rv)
theorem NVs.is {P : Program} {w : World} {H : Hp} {h : Heap} (ok : HOk P w H h) : ∀ {ks : List NestedKey} {vs : List V}, NVs H ks vs → ∀ {us : List Value}, Vals vs us → NestedAll h ks us
  | _, _, .nil, us, r => by
    cases r
    exact .nil
  | _, _, .cons a b, us, r => by
    cases r with
    | cons r1 r2 => exact .cons (NV.is ok a r1) (NVs.is ok b r2)
end
/-- a dict's rows: key, what was handed in as key, what stands there -/
abbrev Trio := NestedKey × V × V
abbrev RR : List Trio → List Row3 → Prop := Paired fun (p : Trio) (q : Row3) => p.1 = q.1 ∧ RelV p.2.1 q.2.1 ∧ RelV p.2.2 q.2.2
def UO (w : World) (d : Addr) (xs : List Trio) : HO := .ext fun h => xs.length ≤ sizeLine ∧ (d == sysModules) = false ∧ ∃ rs : List Row3, RR xs rs ∧ ∃ o es ep, h.get? d = some o ∧ o.ExactDict ∧ o.data = .dict es ep ∧ es.toList = rs.map (ent w) ∧ (rs.map (·.1)).Nodup
abbrev kvOf (xs : List Trio) : List (NestedKey × V) := xs.map fun x => (x.1, x.2.2)
/-- at d stands a dict with these keys and things -/
def UAt (w : World) (H : Hp) (d : Addr) (kvs : List (NestedKey × V)) : Prop := ∃ xs, H d = some (UO w d xs) ∧ (∀ x ∈ xs, NV H x.1 x.2.1 ∧ x.1.depth ≤ 8) ∧ kvOf xs = kvs
theorem UAt.mono {w : World} {H H' : Hp} {d : Addr} {kvs : List (NestedKey × V)} (u : UAt w H d kvs) (t : ∀ b xs, H b = some (.tup xs) → H' b = some (.tup xs)) (e : ∀ o, H d = some o → H' d = some o) : UAt w H' d kvs := by
  obtain ⟨xs, a, b, c⟩ := u
  exact ⟨xs, e _ a, fun x hx => ⟨(b x hx).1.mono t, (b x hx).2⟩, c⟩
theorem UAt.same {w : World} {H H' : Hp} {d : Addr} {kvs : List (NestedKey × V)} (u : UAt w H d kvs) (s : Same H H') : UAt w H' d kvs := u.mono (fun b xs h => s b _ h) fun o h => s d o h
theorem UAt.ne {w : World} {H : Hp} {d b : Addr} {kvs : List (NestedKey × V)} {o : HO} (u : UAt w H d kvs) (h : H b = some o) (no : ∀ φ, o ≠ .ext φ) : d ≠ b := by
  obtain ⟨xs, a, _, _⟩ := u
  rintro rfl
  rw [h] at a
  exact no _ (Option.some.inj a)
theorem UAt.ne_none {w : World} {H : Hp} {d b : Addr} {kvs : List (NestedKey × V)} (u : UAt w H d kvs) (h : H b = none) : d ≠ b := by
  obtain ⟨xs, a, _, _⟩ := u
  exact ne_of_none a h
theorem RR.len {xs : List Trio} {rs : List Row3} (r : RR xs rs) : xs.length = rs.length := Paired.length r
theorem RR.keys {xs : List Trio} {rs : List Row3} (r : RR xs rs) : xs.map (·.1) = rs.map (·.1) := by
  induction r with
  | nil => rfl
  | cons h t ih => rw [List.map_cons, List.map_cons, ih, h.1]
theorem RR.at_ {xs : List Trio} {rs : List Row3} (r : RR xs rs) : ∀ {i : Nat} {y : Row3}, rs[i]? = some y → ∃ x, xs[i]? = some x ∧ x.1 = y.1 ∧ RelV x.2.1 y.2.1 ∧ RelV x.2.2 y.2.2 := by
  induction r with
  | nil => intro i y e; simp at e
  | @cons p q ps qs h t ih =>
    intro i y e
    cases i with
    | zero =>
      cases e
      exact ⟨p, rfl, h⟩
    | succ i => exact ih (by simpa using e)
section
variable {P : Program} {w : World} {H : Hp} {h : Heap} {d : Addr} {kvs : List (NestedKey × V)}
theorem UAt.ud (u : UAt w H d kvs) (ok : HOk P w H h) : ∃ (xs : List Trio) (rs : List Row3) (o : Obj) (es : Array DictEntry) (ep : Nat), H d = some (UO w d xs) ∧ (∀ x ∈ xs, NV H x.1 x.2.1 ∧ x.1.depth ≤ 8) ∧ kvOf xs = kvs ∧ xs.length ≤ sizeLine ∧ (d == sysModules) = false ∧ RR xs rs ∧ UD w h d rs o es ep := by
  obtain ⟨xs, a, b, c⟩ := u
  obtain ⟨⟨z, hd, rs, rr, o, es, ep, h1, h2, h3, h4, h5⟩, _, _⟩ := (show ObjOk P w H h d (UO w d xs) from ok d _ a)
  refine ⟨xs, rs, o, es, ep, a, b, c, z, hd, rr, ⟨h1, h2, h3, h4, fun y hy => ?_, h5⟩⟩
  obtain ⟨i, hi⟩ := List.mem_iff_getElem?.mp hy
  obtain ⟨x, hx, e1, e2, _⟩ := rr.at_ hi
  obtain ⟨n1, n2⟩ := b x (List.mem_of_getElem? hx)
  rw [← e1]
  exact ⟨n1.is ok e2, n2⟩
theorem RR.val {xs : List Trio} {rs : List Row3} (r : RR xs rs) (k : NestedKey) : RelO (valV (kvOf xs) k) (valU rs k) := by
  have aux : ∀ {xs : List Trio} {rs : List Row3}, RR xs rs → RelO (valV (kvOf xs) k) ((rs.find? fun x => decide (x.1 = k)).map (·.2.2)) := by
    intro xs rs r
    induction r with
    | nil => exact True.intro
    | @cons p q ps qs h t ih =>
      obtain ⟨h1, _, h3⟩ := h
      by_cases e : p.1 = k
      · have e' : q.1 = k := h1.symm.trans e
        show RelO (valV ((p.1, p.2.2) :: kvOf ps) k) _
        rw [valV_pos (p := (p.1, p.2.2)) e, List.find?_cons, decide_eq_true e']
        exact h3
      · have e' : ¬ q.1 = k := fun z => e (h1.trans z)
        show RelO (valV ((p.1, p.2.2) :: kvOf ps) k) _
        rw [valV_neg (p := (p.1, p.2.2)) e, List.find?_cons, decide_eq_false e']
        exact ih
  have : valU rs k = (rs.find? fun x => decide (x.1 = k)).map (·.2.2) := by
    unfold valU pos
    clear r aux
    induction rs with
    | nil => rfl
    | cons y r ih =>
      rw [List.findIdx?_cons, List.find?_cons]
      by_cases e : y.1 = k
      · rw [decide_eq_true e]
        rfl
      · rw [decide_eq_false e]
        dsimp only
        rw [← ih]
        cases List.findIdx? (fun x => decide (x.1 = k)) r with
        | none => rfl
        | some j => rfl
  rw [this]
  exact aux r
/-- the rows behind a store -/
def putX (xs : List Trio) (k : NestedKey) (y v : V) : List Trio :=
  if (xs.any fun x => decide (x.1 = k)) = true then xs.map (fun x => if x.1 = k then (x.1, x.2.1, v) else x) else xs ++ [(k, y, v)]
theorem putX_kv (xs : List Trio) (k : NestedKey) (y v : V) : kvOf (putX xs k y v) = putK (kvOf xs) k v := by
  unfold putX putK
  rw [List.any_map]
  by_cases e : (xs.any fun x => decide (x.1 = k)) = true
  · rw [if_pos e, if_pos (show (xs.any ((fun kv : NestedKey × V => decide (kv.1 = k)) ∘ fun x : Trio => (x.1, x.2.2))) = true from e)]
    unfold kvOf
    rw [List.map_map, List.map_map]
    refine List.map_congr_left fun x _ => ?_
    show (((if x.1 = k then (x.1, x.2.1, v) else x) : Trio).1, ((if x.1 = k then (x.1, x.2.1, v) else x) : Trio).2.2) = if x.1 = k then (x.1, v) else (x.1, x.2.2)
    split <;> rfl
  · rw [if_neg e, if_neg (show ¬ (xs.any ((fun kv : NestedKey × V => decide (kv.1 = k)) ∘ fun x : Trio => (x.1, x.2.2))) = true from e)]
    unfold kvOf
    rw [List.map_append]
    rfl
theorem RR.put {xs : List Trio} {rs : List Row3} (r : RR xs rs) (nd : (rs.map (·.1)).Nodup) (k : NestedKey) {y v : V} {u z : Value} (ry : RelV y u) (rv : RelV v z) : RR (putX xs k y v) (setU rs k u z) := by
  unfold putX setU
  cases hp : pos rs k with
  | none =>
    have : ¬ (xs.any fun x => decide (x.1 = k)) = true := fun q => by
      obtain ⟨x, hx, e⟩ := List.any_eq_true.mp q
      have m : x.1 ∈ xs.map (·.1) := List.mem_map.mpr ⟨x, hx, rfl⟩
      rw [r.keys] at m
      obtain ⟨y', hy', e'⟩ := List.mem_map.mp m
      have := List.findIdx?_eq_none_iff.mp hp y' hy'
      exact absurd (e'.trans (of_decide_eq_true e)) (of_decide_eq_false this)
    rw [if_neg this]
    exact Paired.snoc r ⟨rfl, ry, rv⟩
  | some i =>
    obtain ⟨q, hq, ek⟩ := pos_is hp
    obtain ⟨x, hx, e1, _, _⟩ := r.at_ hq
    rw [if_pos (List.any_eq_true.mpr ⟨x, List.mem_of_getElem? hx, decide_eq_true (e1.trans ek)⟩)]
    dsimp only
    have e : (rs.modify i fun x => (x.1, x.2.1, z)) = rs.map fun x => if x.1 = k then (x.1, x.2.1, z) else x := by
      refine List.ext_getElem? fun j => ?_
      rw [List.getElem?_modify, List.getElem?_map]
      cases hj : rs[j]? with
      | none => rfl
      | some t =>
        by_cases c : i = j
        · subst c
          rw [hq] at hj
          cases hj
          simp [ek]
        · have : ¬ t.1 = k := fun w' => c (by
            have a1 := pos_some nd hj
            rw [w', hp] at a1
            exact Option.some.inj a1)
          simp [c, this]
    rw [e]
    clear e hp hq hx
    induction r with
    | nil => exact .nil
    | @cons p q ps qs h t ih =>
      obtain ⟨h1, h2, h3⟩ := h
      rw [List.map_cons, List.map_cons]
      refine .cons ?_ (ih (List.nodup_cons.mp nd).2)
      by_cases c : p.1 = k
      · rw [if_pos c, if_pos (h1.symm.trans c)]
        exact ⟨h1, h2, rv⟩
      · rw [if_neg c, if_neg fun w' => c (h1.trans w')]
        exact ⟨h1, h2, h3⟩
end
end LU
namespace LU
open PySem PySem.Spec PyProof.Rows L2
section
variable {X : Cx} {pins : List (Addr × Obj)} {σ : L2.St} {H : Hp} {s : Shared} {a : Addr} {kvs : List (NestedKey × V)} {k : NestedKey} {y v : V} {u z : Value} {E : Value → Shared → Prop}
theorem uo_ok {P : Program} {w : World} {H : Hp} {h : Heap} {d : Addr} {xs : List Trio} {rs : List Row3} {o : Obj} {es : Array DictEntry} {ep : Nat} (hl : xs.length ≤ sizeLine) (hd : (d == sysModules) = false) (r : RR xs rs) (q : UD w h d rs o es ep) : ObjOk P w H h d (UO w d xs) := by
  refine ⟨⟨hl, hd, rs, r, o, es, ep, q.get, q.exact_, q.data, q.ents, q.nd⟩, ⟨o, q.get⟩, fun h1 h2 p e => ?_⟩
  obtain ⟨a, b, rs', r', o', es', ep', c, t⟩ := p
  exact ⟨a, b, rs', r', o', es', ep', e _ c, t⟩
theorem u_in {Q : Value → Shared → Prop} (hu : X.A.units + 64 < cLine) (I : Inv X pins σ H s) (g : UAt X.w H a kvs) (n : NV H k y) (hd : k.depth ≤ 8) (ry : RelV y u) (h : ∀ s', Inv X pins σ H s' → Q (.bool (valV kvs k).isSome) s') :
    wpAny (model X.prog X.w) X.A (compareOp .In u (.ref a)) Q E s := by
  obtain ⟨xs, rs, o, es, ep, _, _, c, _, hs, rr, ud⟩ := g.ud I.hok
  refine in_u (by rw [Around.in1_units]; omega) hs ud (n.is I.hok ry) hd ?_
  have e := (rr.val k).isSome_eq
  rw [c] at e
  rw [← e]
  exact h _ (I.tok _)
theorem u_notIn {Q : Value → Shared → Prop} (hu : X.A.units + 64 < cLine) (I : Inv X pins σ H s) (g : UAt X.w H a kvs) (n : NV H k y) (hd : k.depth ≤ 8) (ry : RelV y u) (h : ∀ s', Inv X pins σ H s' → Q (.bool (!(valV kvs k).isSome)) s') :
    wpAny (model X.prog X.w) X.A (compareOp .NotIn u (.ref a)) Q E s := by
  obtain ⟨xs, rs, o, es, ep, _, _, c, _, hs, rr, ud⟩ := g.ud I.hok
  refine notIn_u (by rw [Around.in1_units]; omega) hs ud (n.is I.hok ry) hd ?_
  have e := (rr.val k).isSome_eq
  rw [c] at e
  rw [← e]
  exact h _ (I.tok _)
theorem u_getItem {Q : Value → Shared → Prop} (hu : X.A.units + 64 < cLine) (I : Inv X pins σ H s) (g : UAt X.w H a kvs) (n : NV H k y) (hd : k.depth ≤ 8) (hv : valV kvs k = some v) (ry : RelV y u) (h : ∀ w' s', Inv X pins σ H s' → RelV v w' → Q w' s') :
    wpAny (model X.prog X.w) X.A (getItem (.ref a) u) Q E s := by
  obtain ⟨xs, rs, o, es, ep, _, _, c, _, hs, rr, ud⟩ := g.ud I.hok
  have e := rr.val k
  rw [c] at e
  obtain ⟨w', hw, rw'⟩ := RelO.some_of (v := v) (o := valU rs k) (by rw [← hv]; exact e)
  exact item_u (by rw [Around.in1_units]; omega) ud (n.is I.hok ry) hd hw (h w' _ (I.tok _) rw')
theorem putX_len (xs : List Trio) (k : NestedKey) (y v : V) : (putX xs k y v).length ≤ xs.length + 1 := by
  unfold putX
  split
  · rw [List.length_map]
    omega
  · rw [List.length_append]
    exact Nat.le_refl _
/-- the heap behind a store into such a dict -/
def UPut (w : World) (H : Hp) (a : Addr) (kvs : List (NestedKey × V)) (H' : Hp) : Prop := UAt w H' a kvs ∧ (∀ b, b ≠ a → H' b = H b)
theorem UPut.tups {w : World} {H H' : Hp} {a : Addr} {kvs kvs' : List (NestedKey × V)} (g : UAt w H a kvs') (p : UPut w H a kvs H') : ∀ b xs, H b = some (.tup xs) → H' b = some (.tup xs) := fun b xs e => by
  rw [p.2 b (g.ne e (fun φ z => by cases z)).symm]
  exact e
theorem u_setItem {Q : Unit → Shared → Prop} (hu : X.A.units + 64 < cLine) (I : Inv X pins σ H s) (g : UAt X.w H a kvs) (n : NV H k y) (hd : k.depth ≤ 8) (hl : kvs.length < sizeLine) (ry : RelV y u) (rv : RelV v z)
    (h : ∀ H' s', UPut X.w H a (putK kvs k v) H' → Inv X pins σ H' s' → Q () s') :
    wpAny (model X.prog X.w) X.A (setItem (.ref a) u z) Q E s := by
  obtain ⟨xs, rs, o, es, ep, ea, ks, c, hz, hs, rr, ud⟩ := g.ud I.hok
  have lx : xs.length = kvs.length := by rw [← c, List.length_map]
  refine setItem_u (by rw [Around.in1_units]; omega) ud (n.is I.hok ry) hd (by rw [← rr.len]; exact hz) fun h' o' es' ep' ud' sb => ?_
  have nt : ∀ b ys, H b = some (.tup ys) → (upd H a (UO X.w a (putX xs k y v))) b = some (.tup ys) := fun b ys e => by
    rw [upd_ne (ne_of e ea (by intro z; cases z))]
    exact e
  refine h (upd H a (UO X.w a (putX xs k y v))) _ ⟨⟨_, upd_same, fun x hx => ?_, ?_⟩, fun b hb => upd_ne hb⟩ (d_write I (by rw [ea]; exact True.intro) sb ⟨_, ud'.get⟩ (uo_ok ?_ hs (rr.put ud.nd k ry rv) ud'))
  · unfold putX at hx
    split at hx
    · obtain ⟨x', hx', rfl⟩ := List.mem_map.mp hx
      have := ks x' hx'
      split
      · exact ⟨this.1.mono nt, this.2⟩
      · exact ⟨this.1.mono nt, this.2⟩
    · rcases List.mem_append.mp hx with q | q
      · exact ⟨(ks x q).1.mono nt, (ks x q).2⟩
      · rw [List.mem_singleton.mp q]
        exact ⟨n.mono nt, hd⟩
  · rw [putX_kv, c]
  · have := putX_len xs k y v
    omega
theorem u_empty {P : Program} {w : World} {H : Hp} (h : Heap) (hb : sysModules < h.objs.size) : ObjOk P w H (h.push { cls := .type "dict", data := .dict #[] }) h.objs.size (UO w h.objs.size []) :=
  uo_ok (rs := []) (Nat.zero_le _) (beq_eq_false_iff_ne.mpr (Ne.symm (Nat.ne_of_lt hb))) .nil ⟨Heap.get?_push_size _ rfl, ⟨rfl, rfl, rfl⟩, rfl, rfl, (fun _ q => nomatch q), List.nodup_nil⟩
theorem u_new {w : World} {H : Hp} {p : Addr} : UAt w (upd H p (UO w p [])) p [] := ⟨[], upd_same, (fun _ q => nomatch q), rfl⟩
end
/-! ### readings and rules -/
def tUNew (w : World) : TE := fun _ H Q => ∀ p, H p = none → ∀ H', UAt w H' p [] → (∀ b, b ≠ p → H' b = H b) → Q (.ref p) H'
def tUGet (w : World) (td ty : TE) : TE := fun σ H Q => td σ H fun x H1 => ty σ H1 fun y H2 => ∃ a kvs k v, x = .ref a ∧ UAt w H2 a kvs ∧ NV H2 k y ∧ k.depth ≤ 8 ∧ valV kvs k = some v ∧ Q v H2
def tUIn (w : World) (ty td : TE) : TE := fun σ H Q => ty σ H fun y H1 => td σ H1 fun x H2 => ∃ a kvs k, x = .ref a ∧ UAt w H2 a kvs ∧ NV H2 k y ∧ k.depth ≤ 8 ∧ Q (.bl (valV kvs k).isSome) H2
def tUNotIn (w : World) (ty td : TE) : TE := fun σ H Q => ty σ H fun y H1 => td σ H1 fun x H2 => ∃ a kvs k, x = .ref a ∧ UAt w H2 a kvs ∧ NV H2 k y ∧ k.depth ≤ 8 ∧ Q (.bl (!(valV kvs k).isSome)) H2
def sUPut (w : World) (td ty tv : TE) : TS := fun D σ H => tv σ H fun v H1 => td σ H1 fun x H2 => ty σ H2 fun y H3 => ∃ a kvs k, x = .ref a ∧ UAt w H3 a kvs ∧ NV H3 k y ∧ k.depth ≤ 8 ∧ kvs.length < sizeLine ∧ ∀ H4, UPut w H3 a (putK kvs k v) H4 → D.nx σ H4
/-- {k: v} -/
def tUDisp (w : World) (tk tv : TE) : TE := fun σ H Q => ∀ p, H p = none → ∀ H0, UAt w H0 p [] → (∀ b, b ≠ p → H0 b = H b) → tk σ H0 fun x H1 => tv σ H1 fun y H2 => UAt w H2 p [] ∧ ∃ k, NV H2 k x ∧ k.depth ≤ 8 ∧ ∀ H3, UPut w H2 p [(k, y)] H3 → Q (.ref p) H3
section
variable {X : Cx} {o i e value : Expr} {pos pos' tpos : Pos} {td ty tv tk : TE} {w : World}
theorem pe_unew (hw : X.w = w) : PE X (.Dict [] [] pos) (tUNew w) := by
  subst hw
  exact ⟨fun pins s σ H Q I h => wpAny_Dict_empty ⟨.ref s.heap.objs.size, _, I.laid (a := s.heap.objs.size) (o := UO X.w s.heap.objs.size []) (t' := s.toks) (fun _ _ q => Heap.get?_push_of_some _ q) (Nat.le_refl _) (u_empty s.heap I.big), rfl, h _ (I.hok.fresh (Nat.le_refl _)) _ u_new fun b hb => upd_ne hb⟩⟩
theorem pe_uget (hw : X.w = w) (hu : X.A.units + 64 < cLine) (ho : PE X o td) (hi : PE X i ty) (hs : NoSl i) : PE X (.Subscript o i pos) (tUGet w td ty) := by
  subst hw
  refine ⟨fun pins s σ H Q I h => ?_⟩
  refine subD_of PySem.F.slot_dict_getitem.lookup hs (thn (ho.run pins s σ H _ I h) fun u s1 ⟨x, H1, I1, rx, q1⟩ => thn (hi.run pins s1 σ H1 _ I1 q1) fun iv s2 ⟨y, H2, I2, ry, a, kvs, k, v, ex, g, n, hd, hv, q2⟩ => ?_)
  subst ex
  obtain rfl : u = Value.ref a := rx
  obtain ⟨_, _, _, _, _, _, _, _, _, _, _, ud⟩ := g.ud I2.hok
  exact ⟨ud.type, u_getItem hu I2 g n hd hv ry fun w' s3 I3 rw' => ⟨v, H2, I3, rw', q2⟩⟩
theorem pc_uin (hw : X.w = w) (hu : X.A.units + 64 < cLine) (hi : PE X i ty) (ho : PE X o td) : PC X .In i o (tUIn w ty td) := by
  subst hw
  refine ⟨fun pins s σ H Q I h => ?_⟩
  refine thn (hi.run pins s σ H _ I h) fun iv s1 ⟨y, H1, I1, ry, q1⟩ => thn (ho.run pins s1 σ H1 _ I1 q1) fun u s2 ⟨x, H2, I2, rx, a, kvs, k, ex, g, n, hd, q2⟩ => ?_
  subst ex
  obtain rfl : u = Value.ref a := rx
  exact u_in hu I2 g n hd ry fun s3 I3 => ⟨.bl (valV kvs k).isSome, H2, I3, rfl, q2⟩
theorem pc_unotin (hw : X.w = w) (hu : X.A.units + 64 < cLine) (hi : PE X i ty) (ho : PE X o td) : PC X .NotIn i o (tUNotIn w ty td) := by
  subst hw
  refine ⟨fun pins s σ H Q I h => ?_⟩
  refine thn (hi.run pins s σ H _ I h) fun iv s1 ⟨y, H1, I1, ry, q1⟩ => thn (ho.run pins s1 σ H1 _ I1 q1) fun u s2 ⟨x, H2, I2, rx, a, kvs, k, ex, g, n, hd, q2⟩ => ?_
  subst ex
  obtain rfl : u = Value.ref a := rx
  exact u_notIn hu I2 g n hd ry fun s3 I3 => ⟨.bl (!(valV kvs k).isSome), H2, I3, rfl, q2⟩
theorem ps_uput (hw : X.w = w) (hu : X.A.units + 64 < cLine) (ho : PE X o td) (hi : PE X i ty) (hv : PE X value tv) (hs : swapsWith value (some (.Subscript o i pos')) pos.line X.env = pure false) :
    PS X (.Assign [.Subscript o i pos'] value pos) (sUPut w td ty tv) := by
  subst hw
  refine ⟨fun pins s σ H D I h => ?_⟩
  refine wpAny_Assign_Subscript (thn (hv.run pins s σ H _ I h) fun r s1 ⟨v, H1, I1, rv, q1⟩ => thn (ho.run pins s1 σ H1 _ I1 q1) fun u s2 ⟨x, H2, I2, rx, q2⟩ => thn (hi.run pins s2 σ H2 _ I2 q2) fun iv s3 ⟨y, H3, I3, ry, a, kvs, k, ex, g, n, hd, hl, q3⟩ => ?_) hs
  subst ex
  obtain rfl : u = Value.ref a := rx
  exact u_setItem hu I3 g n hd hl ry rv fun H4 s4 p I4 => ⟨σ, H4, I4, q3 H4 p⟩
theorem pe_udisp (hw : X.w = w) (hu : X.A.units + 64 < cLine) (hk : PE X o tk) (hv : PE X value tv) : PE X (.Dict [some o] [value] pos) (tUDisp w tk tv) := by
  subst hw
  refine ⟨fun pins s σ H Q I q => ?_⟩
  have hn := I.hok.fresh (Nat.le_refl s.heap.objs.size)
  have I1 := I.laid (a := s.heap.objs.size) (o := UO X.w s.heap.objs.size []) (h' := s.heap.push { cls := .type "dict", data := .dict #[] }) (t' := s.toks) (fun _ _ q => Heap.get?_push_of_some _ q) (Nat.le_refl _) (u_empty s.heap I.big)
  rw [arm_eval_Dict, zip_pairTrees [some o] [value] X.env pos rfl rfl, dictDisplay_pairs _ (by intro z; cases z) (by show 1 < 17; decide)]
  refine wpAny_bind (wpAny_standAt (wpAny_bind ?_))
  unfold subDict
  refine wpAny_bind (wpAny_alloc ?_)
  refine wpAny_bind (wpAny_holding ?_)
  rw [if_pos (show (pairTrees [some o] [value] X.env pos).length ≤ 15 from (by decide : 1 ≤ 15))]
  refine wpAny_bind (pairTrees_cons_walk (thn (hk.run pins _ σ _ _ I1 (q _ hn _ u_new fun b hb => upd_ne hb)) fun u s1 ⟨x, H1, I2, rx, q1⟩ => thn (hv.run pins s1 σ H1 _ I2 q1) fun r s2 ⟨y, H2, I3, ry, g, k, n, hd, q2⟩ => pairTrees_nil_walk ?_))
  obtain ⟨xs, rs, ob, es, ep, ea, ks, c, hz, hs, rr, ud⟩ := g.ud I3.hok
  have ex : xs = [] := List.map_eq_nil_iff.mp c
  subst ex
  cases rr
  refine wpAny_holding ?_
  rw [List.forIn_cons]
  refine wpAny_bind (wpAny_bind (wpAny_bind (set_u (by omega) ud (n.is I3.hok rx) hd (Nat.zero_le _) fun h' o' es' ep' ud' sb => wpAny_pure ?_)))
  dsimp only
  rw [List.forIn_nil]
  have nt : ∀ b ys, H2 b = some (.tup ys) → (upd H2 s.heap.objs.size (UO X.w s.heap.objs.size (putX [] k x y))) b = some (.tup ys) := fun b ys e => by
    rw [upd_ne (ne_of e ea (by intro z; cases z))]
    exact e
  refine wpAny_pure (wpAny_pure (wpAny_pure (wpAny_pure ⟨.ref s.heap.objs.size, upd H2 s.heap.objs.size (UO X.w s.heap.objs.size (putX [] k x y)), ?_, rfl, q2 _ ⟨⟨_, upd_same, fun t ht => ?_, rfl⟩, fun b hb => upd_ne hb⟩⟩)))
  · exact d_write I3 (by rw [ea]; exact True.intro) sb ⟨_, ud'.get⟩ (uo_ok (by show 1 ≤ sizeLine; decide) hs (RR.put (xs := []) (rs := []) .nil List.nodup_nil k rx ry) ud')
  · rw [List.mem_singleton.mp ht]
    exact ⟨n.mono nt, hd⟩
end
/-- len(d) -/
theorem call_lenU {X : Cx} (w : World) (hw : X.w = w) : CallR X (.builtin "len") (fun xs H Q => ∃ a kvs, xs = [V.ref a] ∧ UAt w H a kvs ∧ Q (.int kvs.length) H) := by
  subst hw
  intro pins s σ H xs us Q I r h
  obtain ⟨a, kvs, rfl, g, q⟩ := h
  obtain ⟨u, rfl, ru⟩ := vals1 r
  cases ru
  obtain ⟨ys, rs, ob, es, ep, ea, ks, c, hz, hs, rr, ud⟩ := g.ud I.hok
  have sz : (es.size : Int) = (kvs.length : Int) := by
    rw [ud.size, ← rr.len, ← c, List.length_map]
  have fit : (kvs.length : Int) < 2 ^ 63 := by
    rw [← sz, ud.size, ← rr.len]
    rw [sizeLine_eq] at hz
    omega
  refine Calls.call_function_entry kind_len plain_len entry_len (args_len1 _) ?_
  unfold Builtin.«len»
  refine wpAny_bind (m := oneArg "len" _) (wpAny_pure ?_)
  refine wpAny_bind (m := callSpecial? (.ref a) (Str.ofString "__len__")) (wpAny_callSpecial?_slot (name := Str.ofString "__len__") ud.type PySem.F.slot_dict_len (wpAny_call_entry PySem.F.slot_dict_len ud.type PySem.F.entry_dict_len ?_ (PySem.F.args_dict_len_1 _)))
  show wpAny _ _ (dictSize a >>= _) _ _ s
  unfold dictSize
  refine wpAny_bind (wpAny_bind (wpAny_dictEntries ud.get ud.data (wpAny_pure ?_)))
  show wpAny _ _ (Builtin.Dict.pendingCount a >>= _) _ _ s
  refine wpAny_bind (wpAny_pendingCount_other hs ?_)
  refine wpAny_ret_mkInt ?_
  have e0 : (es.size : Int) + ((0 : Nat) : Int) = (kvs.length : Int) := (Int.add_zero _).trans sz
  rw [e0]
  show wpAny _ _ _ _ _ { s with toks := s.toks + 1 }
  refine wpAny_bind (wpAny_holding (wpAny_pure ?_))
  refine wpAny_bind (wpAny_letGo ?_)
  show wpAny _ _ (if ((kvs.length : Nat) : Int) < 0 then _ else _) _ _ _
  rw [if_neg (by omega)]
  show wpAny _ _ (if ((kvs.length : Nat) : Int) ≥ 2 ^ 63 then _ else _) _ _ _
  rw [if_neg (by omega)]
  exact wpAny_bind (wpAny_mkInt (wpAny_pure ⟨_, rfl, .int kvs.length, H, I.tok _, ⟨_, rfl⟩, q⟩))
end LU

namespace LH
open PySem PySem.Spec PyProof.Rows L2 NdefX
/-! ### the entry of a nested def that has cells of its own beside the captured ones -/
theorem cellsFrom_app : ∀ (names : List (Str × NameKind)) (n : Nat) (acc : List (Str × Addr)), cellsFrom n names acc = cellsFrom n names [] ++ acc
  | [], _, _ => rfl
  | (name, kind) :: r, n, acc => by
    unfold cellsFrom
    split
    · rw [cellsFrom_app r (n + 1) ((name, n) :: acc), cellsFrom_app r (n + 1) [(name, n)], List.append_assoc]
      rfl
    · exact cellsFrom_app r n acc
theorem mem_cellsFrom : ∀ {names : List (Str × NameKind)} {n : Nat} {acc : List (Str × Addr)} {x : Str} {c : Addr}, (x, c) ∈ cellsFrom n names acc → (x, c) ∈ acc ∨ (x, NameKind.cell) ∈ names
  | [], _, _, _, _, h => .inl h
  | (name, kind) :: r, n, acc, x, c, h => by
    unfold cellsFrom at h
    split at h
    · rename_i hk
      rcases mem_cellsFrom h with q | q
      · rcases List.mem_cons.mp q with e | q
        · cases e
          have : kind = .cell := beq_iff_eq.mp hk
          subst this
          exact .inr List.mem_cons_self
        · exact .inl q
      · exact .inr (List.mem_cons_of_mem _ q)
    · rcases mem_cellsFrom h with q | q
      · exact .inl q
      · exact .inr (List.mem_cons_of_mem _ q)
section
variable {M : Model} {A : Around} {E : Value → Shared → Prop} {s₀ s : Shared} {m cm : Str → Option Value} {env : Env} {own : List (Str × Addr)}
theorem stL_own {n : Str} {v : Value} {Q : Unit → Shared → Prop} (x : InCallC s₀ env.locals m own cm s) (hk : env.scope.kind = .function) (hl : env.kindOf n = some .local)
    (h : ∀ s', InCallC s₀ env.locals (fun y => if y = n then some v else m y) own cm s' → Q () s') : wpAny M A (storeName env n v) Q E s := by
  refine wpAny_storeName_local hl x.toInCall.ns (fun h' hn' hs' => h _ ⟨⟨?_, hn', fun b o e => ?_, x.toInCall.fresh⟩, fun k c hc => ?_, x.apart, x.above⟩) (by rw [hk]; rfl)
  · obtain ⟨h₁, tk, rfl⟩ := x.toInCall.same
    exact ⟨h', _, rfl⟩
  · exact hs'.extBut b o (Nat.ne_of_lt (Nat.lt_of_lt_of_le (Heap.lt_size e) x.toInCall.fresh)) (x.toInCall.keep b o e)
  · exact (x.cell k c hc).sameBut hs' (Nat.ne_of_gt (x.above k c (PySem.mem_of_lookup hc)))
theorem stC_own {n : Str} {c : Addr} {v : Value} {Q : Unit → Shared → Prop} (x : InCallC s₀ env.locals m own cm s) (hk : env.scope.kind = .function) (hl : env.kindOf n = some .cell)
    (ho : own.lookup n = some c) (hc : env.cells.lookup n = some c)
    (h : ∀ s', InCallC s₀ env.locals m own (fun y => if y = n then some v else cm y) s' → Q () s') : wpAny M A (storeName env n v) Q E s := by
  have hLc := x.above n c (PySem.mem_of_lookup ho)
  refine wpAny_storeName_cell hk hl hc (x.cell n c ho) fun h' hc' hs' => h _ ⟨⟨?_, x.toInCall.ns.sameBut hs' (Nat.ne_of_lt hLc), fun b o e => ?_, x.toInCall.fresh⟩, fun k c' hk' => ?_, x.apart, x.above⟩
  · obtain ⟨h₁, tk, rfl⟩ := x.toInCall.same
    exact ⟨h', _, rfl⟩
  · exact hs'.extBut b o (Nat.ne_of_lt (Nat.lt_trans (Nat.lt_of_lt_of_le (Heap.lt_size e) x.toInCall.fresh) hLc)) (x.toInCall.keep b o e)
  · by_cases hkn : k = n
    · subst hkn
      rw [ho] at hk'; cases hk'
      simpa using hc'
    · rw [if_neg hkn]
      exact (x.cell k c' hk').sameBut hs' fun e => hkn (name_of_addr x.apart (PySem.mem_of_lookup hk') (e ▸ PySem.mem_of_lookup ho))
theorem wpAny_bind_own (f : Str × Value → PUnit → Sem (ForInStep PUnit)) (hf : ∀ n v u, f (n, v) u = (do storeName env n v; pure (.yield ⟨⟩))) (hk : env.scope.kind = .function) (hsub : ∀ n c, own.lookup n = some c → env.cells.lookup n = some c) :
    ∀ (binds : List (Str × Value)) (m cm : Str → Option Value) (s : Shared) (Q : PUnit → Shared → Prop), InCallC s₀ env.locals m own cm s →
      (∀ x ∈ binds, env.kindOf x.1 = some .local ∨ (env.kindOf x.1 = some .cell ∧ (own.lookup x.1).isSome = true)) →
      (∀ s', InCallC s₀ env.locals (bindL env.kindOf binds m) own (bindC env.kindOf binds cm) s' → Q ⟨⟩ s') → wpAny M A (forIn binds ⟨⟩ f) Q E s
  | [], m, cm, s, Q, x, _, h => by rw [List.forIn_nil]; exact wpAny_pure (h s x)
  | (n, v) :: r, m, cm, s, Q, x, hkind, h => by
    rw [List.forIn_cons, hf]
    have hr : ∀ y ∈ r, env.kindOf y.1 = some .local ∨ (env.kindOf y.1 = some .cell ∧ (own.lookup y.1).isSome = true) := fun y hy => hkind y (List.mem_cons_of_mem _ hy)
    rcases hkind (n, v) List.mem_cons_self with hl | ⟨hl, hc⟩
    · refine wpAny_bind (wpAny_bind (stL_own x hk hl fun s' x' => wpAny_pure (wpAny_bind_own f hf hk hsub r _ _ s' Q x' hr fun s'' x'' => h s'' ?_)))
      unfold bindL bindC; rw [if_pos hl, if_pos hl]; exact x''
    · obtain ⟨c, hc⟩ := Option.isSome_iff_exists.mp hc
      have hnl : ¬ env.kindOf n = some .local := by rw [hl]; decide
      refine wpAny_bind (wpAny_bind (stC_own x hk hl hc (hsub n c hc) fun s' x' => wpAny_pure (wpAny_bind_own f hf hk hsub r _ _ s' Q x' hr fun s'' x'' => h s'' ?_)))
      unfold bindL bindC; rw [if_neg hnl, if_neg hnl]; exact x''
end
section
variable {M : Model} {A : Around} {E : Value → Shared → Prop} {s : Shared}
theorem wpAny_newFunctionEnv_own {scope : Scope} {globals : Addr} {cl : List (Str × Addr)} {binds : List (Str × Value)} {qual : Str} {func : Option Addr} {code : Value} {builtins : Addr} {Q : Env → Shared → Prop}
    (hk : scope.kind = .function)
    (hkind : ∀ x ∈ binds, scope.names.lookup x.1 = some .local ∨ (scope.names.lookup x.1 = some .cell ∧ ((cellsFrom (s.heap.objs.size + 1) scope.names []).lookup x.1).isSome = true))
    (hQ : ∀ env, env = newEnv scope s.heap.objs.size globals (cellsFrom (s.heap.objs.size + 1) scope.names [] ++ cl) qual func code none builtins →
      ∀ s', InCallC s env.locals (bindL env.kindOf binds fun _ => none) (cellsFrom (s.heap.objs.size + 1) scope.names []) (bindC env.kindOf binds fun _ => none) s' → Q env s') :
    wpAny M A (newFunctionEnv scope globals cl binds qual func code none builtins) Q E s := by
  simp only [newFunctionEnv, Option.isSome_none, Bool.false_eq_true, if_false]
  refine wpAny_bind (wpAny_alloc ?_)
  refine wpAny_bind (wpAny_layCells _ (fun name kind cells => by cases hkc : kind == NameKind.cell <;> simp [hkc]) _ _ _ _ ?_)
  have ok := cellsFrom_ok scope.names (s.heap.push { cls := .type "frame", data := .dict #[] }) (s.heap.objs.size + 1) [] ⟨fun _ _ hm => (nomatch hm), List.Pairwise.nil⟩ (by rw [Heap.size_push]; exact Nat.le_refl _)
  rw [Heap.size_push] at ok
  rw [show ({ s with heap := s.heap.push { cls := .type "frame", data := .dict #[] } } : Shared).heap.objs.size = s.heap.objs.size + 1 from Heap.size_push .., cellsFrom_app scope.names _ cl]
  refine wpAny_bind (wpAny_bind_own (s₀ := s) (own := cellsFrom (s.heap.objs.size + 1) scope.names []) (env := newEnv scope s.heap.objs.size globals (cellsFrom (s.heap.objs.size + 1) scope.names [] ++ cl) qual func code none builtins)
    _ (fun _ _ _ => rfl) hk (fun n c h => by show (cellsFrom (s.heap.objs.size + 1) scope.names [] ++ cl).lookup n = some c; rw [List.lookup_append, h]; rfl) binds (fun _ => none) (fun _ => none) _ _
    ⟨⟨⟨_, _, rfl⟩, (Heap.Ns.new s.heap (.type "frame")).keeps (pushCells_keeps _ _), fun b o e => pushCells_keeps _ _ b o (Heap.get?_push_of_some _ e), Nat.le_refl _⟩,
      fun n c hc => (ok.empty n c (PySem.mem_of_lookup hc)).1, ok.apart, fun n c hm => (ok.empty n c hm).2⟩
    hkind fun s' x => wpAny_pure (hQ _ rfl s' x))
end
end LH

namespace LH
open PySem PySem.Spec PyProof.Rows L2 NdefX LamX
/-- a nested def's names: parameters (local or a cell of its own), captured ones, locals -/
structure NScC (N ps fr : List Str) (sc : Scope) : Prop where
  kind : sc.kind = .function
  co : sc.isCoroutine = false
  gen : sc.isGenerator = false
  nd : N.Nodup
  pre : N.take (ps.length + fr.length) = ps ++ fr
  par : ∀ x ∈ ps, sc.names.lookup x = some .local ∨ sc.names.lookup x = some .cell
  free : ∀ y ∈ sc.names, y.2 = .free → y.1 ∈ fr
  frk : ∀ x ∈ fr, sc.names.lookup x = some .free
  frn : ∀ x ∈ fr, (x, NameKind.cell) ∉ sc.names
def nscC (N ps fr : List Str) (sc : Scope) : Bool :=
  decide (sc.kind = .function) && !sc.isCoroutine && !sc.isGenerator && decide N.Nodup && decide (N.take (ps.length + fr.length) = ps ++ fr) && ps.all (fun x => decide (sc.names.lookup x = some .local) || decide (sc.names.lookup x = some .cell)) && sc.names.all (fun y => !decide (y.2 = .free) || decide (y.1 ∈ fr)) && fr.all (fun x => decide (sc.names.lookup x = some .free)) && fr.all (fun x => sc.names.all fun y => !(decide (y.1 = x) && decide (y.2 = .cell)))
theorem nscC_by {N ps fr : List Str} {sc : Scope} (h : nscC N ps fr sc = true) : NScC N ps fr sc := by
  unfold nscC at h
  simp only [Bool.and_eq_true, Bool.not_eq_true', decide_eq_true_eq, List.all_eq_true, Bool.or_eq_true, decide_eq_false_iff_not, Bool.and_eq_false_iff] at h
  obtain ⟨⟨⟨⟨⟨⟨⟨⟨h1, h2⟩, h3⟩, h4⟩, h5⟩, h6⟩, h7⟩, h8⟩, h9⟩ := h
  exact ⟨h1, h2, h3, h4, h5, h6, fun y hy e => (h7 y hy).elim (fun z => absurd e z) id, h8, fun x hx hm => (h9 x hx _ hm).elim (fun z => z rfl) fun z => z rfl⟩
abbrev ownC (F : NF) (L : Addr) : List (Str × Addr) := cellsFrom (L + 1) F.scope.names []
abbrev envFC (F : NF) (f L : Addr) : Env := PySem.W.envX F.qual F.scope L f (.ref F.c) (ownC F L ++ F.cl)
/-- the context of its body, at its entry -/
def ncxC (CX : CXT) (P : Program) (w : World) (K : PySem.W.Frag) (mg : Str → Option Value) (base : Heap) (N : List Str) (F : NF) (f : Addr) (A : Around) (outer : List Env) (s : Shared) (H : Hp) (E : XK) : Cx where
  prog := P
  w := w
  K := K
  mg := mg
  base := base
  A := A.deeper (envFC F f s.heap.objs.size)
  N := N
  s_0 := s
  H_0 := H
  env := envFC F f s.heap.objs.size
  outer := outer
  stack := envFC F f s.heap.objs.size :: outer
  ex := []
  calm := true
  fn := fun y => decide (F.scope.names.lookup y = some .cell)
  pn := []
  xe := fun e s' => wpAny (model P w) (A.deeper (envFC F f s.heap.objs.size)) (leaving (envFC F f s.heap.objs.size) e) (fun _ s'' => CX outer H s E e s'') (fun e' s'' => CX outer H s E e' s'') s'
section
variable {CX : CXT} {P : Program} {w : World} {K : PySem.W.Frag} {mg : Str → Option Value} {base : Heap} {N ps fr : List Str} {F : NF} {f : Addr} {A : Around} {outer : List Env} {s s1 : Shared} {H : Hp} {E : XK} {us : List Value} {vs : List V} {ws : List (Option V)}
theorem inv_startC (S : NScC N ps fr F.scope) (hd : A.handled = none) (e0 : Env0 P w K mg base A outer s H) (hl : vs.length = ps.length) (r : Vals vs us) (C : CellsAt F.cl fr ws s.heap H)
    (x : InCallC s s.heap.objs.size (bindL (envFC F f s.heap.objs.size).kindOf (ps.zip us) fun _ => none) (ownC F s.heap.objs.size) (bindC (envFC F f s.heap.objs.size).kindOf (ps.zip us) fun _ => none) s1) :
    Inv (ncxC CX P w K mg base N F f A outer s H E) [] (startF N vs ws) H s1 := by
  have hpl : ps.length + fr.length ≤ N.length := by
    have q := congrArg List.length S.pre
    rw [List.length_take, List.length_append] at q
    omega
  obtain ⟨h1, tk, rfl, kp⟩ := x.done
  have noA : ∀ b : Addr, b ∉ (ncxC CX P w K mg base N F f A outer s H E).ex := fun b z => absurd (show b ∈ ([] : List Addr) from z) (by simp)
  have cellK : ∀ {c : Addr} {v : Option Value}, s.heap.IsCell c v → h1.IsCell c v := fun {c v} ⟨o, ho, hd⟩ => ⟨o, kp _ _ ho, hd⟩
  have lo : ∀ {y : Str} {c : Addr}, (ownC F s.heap.objs.size).lookup y = some c → (ownC F s.heap.objs.size ++ F.cl).lookup y = some c := fun {y c} e => by rw [List.lookup_append, e]; rfl
  have lc : ∀ {y : Str} {c : Addr}, (ownC F s.heap.objs.size ++ F.cl).lookup y = some c → (ownC F s.heap.objs.size).lookup y = some c ∨ ((ownC F s.heap.objs.size).lookup y = none ∧ F.cl.lookup y = some c) := fun {y c} e => by
    rw [List.lookup_append] at e
    cases q : (ownC F s.heap.objs.size).lookup y with
    | none =>
      rw [q] at e
      exact .inr ⟨rfl, e⟩
    | some d =>
      rw [q] at e
      exact .inl e
  have lf : ∀ {y : Str} {c : Addr}, y ∈ fr → F.cl.lookup y = some c → (ownC F s.heap.objs.size ++ F.cl).lookup y = some c := fun {y c} hy e => by
    rw [List.lookup_append]
    cases q : (ownC F s.heap.objs.size).lookup y with
    | none => exact e
    | some d =>
      rcases mem_cellsFrom (PySem.mem_of_lookup q) with z | z
      · cases z
      · exact absurd z (S.frn y hy)
  have up : ∀ {y : Str} {c : Addr}, (ownC F s.heap.objs.size).lookup y = some c → s.heap.objs.size ≤ c := fun {y c} e => Nat.le_of_lt (x.above y c (PySem.mem_of_lookup e))
  have dn : ∀ {y : Str} {c : Addr}, F.cl.lookup y = some c → c < s.heap.objs.size := fun {y c} e => by
    obtain ⟨v, z⟩ := (C.all y c e).2
    exact z.lt
  refine ⟨⟨e0.mod, S.kind, rfl, rfl, Nat.le_refl _, fun y z c e1 e2 => ?_, fun y hy => ?_, fun y c z e => ?_, fun _ => hd, Around.frames_deeper e0.frames, .inr ⟨rfl, rfl⟩, fun b z => absurd z (noA b), e0.bs, e0.bsz, fun b _ _ => noA b,
      fun b z => absurd z (noA b), e0.funs, e0.frf⟩,
    rfl, e0.bare, Un.kept kp, ⟨_, x.toInCall.ns, fun i y v e1 e2 e3 => ?_⟩, fun y c e => ?_, e0.hok.fresh (Nat.le_refl _), fun y c e => ?_, fun q hq => absurd (show q ∈ ([] : List (Addr × Obj)) ++ [] from hq) (by simp), e0.hok.kept kp, ?_⟩
  · rcases lc e1 with a | ⟨_, a⟩ <;> rcases lc e2 with b | ⟨_, b⟩
    · exact name_of_addr x.apart (PySem.mem_of_lookup a) (PySem.mem_of_lookup b)
    · exact absurd (up a) (Nat.not_le_of_lt (dn b))
    · exact absurd (up b) (Nat.not_le_of_lt (dn a))
    · exact C.inj y z c a b
  · have hy : F.scope.names.lookup y = some .cell ∨ F.scope.names.lookup y = some .free := hy
    rcases hy with hy | hy
    · obtain ⟨c, e⟩ := cell_has (n := s.heap.objs.size + 1) hy
      exact ⟨c, lo e⟩
    · have hf := S.free _ (PySem.mem_of_lookup hy) rfl
      obtain ⟨i, hi⟩ := List.mem_iff_getElem?.mp hf
      obtain ⟨c, hc, _⟩ := C.has i y hi
      exact ⟨c, lf hf hc⟩
  · have z : F.scope.names.lookup y = some .cell := of_decide_eq_true z
    rcases lc e with a | ⟨a, _⟩
    · exact up a
    · obtain ⟨c', e'⟩ := cell_has (n := s.heap.objs.size + 1) z
      have a : (ownC F s.heap.objs.size).lookup y = none := a
      rw [show (ownC F s.heap.objs.size).lookup y = some c' from e'] at a
      cases a
  · have e1 : N[i]? = some y := e1
    have clen := C.len
    unfold startF at e2
    by_cases h1 : i < ps.length
    · have hq : (ps ++ fr)[i]? = some y := by
        rw [← S.pre, List.getElem?_take_of_lt (by omega)]
        exact e1
      rw [List.getElem?_append_left h1] at hq
      rw [List.getElem?_append_left (by rw [List.length_map]; omega), List.getElem?_map] at e2
      have ha : vs[i]? = some v := by
        cases e : vs[i]? with
        | none => rw [e] at e2; cases e2
        | some a => rw [e] at e2; cases e2; rfl
      obtain ⟨u, hu, rv⟩ := r.get ha
      have ndP : ps.Nodup := by
        have q := S.nd.sublist (List.take_sublist (ps.length + fr.length) N)
        rw [S.pre] at q
        exact (List.nodup_append.mp q).1
      refine ⟨u, rv, ?_⟩
      rcases S.par y (List.mem_of_getElem? hq) with k | k
      · exact .inl ⟨k, bindL_get ndP hq hu k⟩
      · obtain ⟨c, e⟩ := cell_has (n := s.heap.objs.size + 1) k
        refine .inr ⟨.inl k, c, lo e, ?_⟩
        have q := x.cell y c e
        rw [bindC_get ndP hq hu (by show F.scope.names.lookup y ≠ _; rw [k]; decide)] at q
        exact q
    · rw [List.getElem?_append_right (by rw [List.length_map]; omega), List.length_map] at e2
      by_cases h2 : i < ps.length + fr.length
      · have hq : (ps ++ fr)[i]? = some y := by
          rw [← S.pre, List.getElem?_take_of_lt (by omega)]
          exact e1
        rw [List.getElem?_append_right (by omega)] at hq
        rw [List.getElem?_append_left (by omega), hl] at e2
        obtain ⟨c, hc, hv⟩ := C.has (i - ps.length) y hq
        obtain ⟨u, ru, hu⟩ := hv v e2
        have hm := List.mem_of_getElem? hq
        exact ⟨u, ru, .inr ⟨.inr (S.frk y hm), c, lf hm hc, cellK hu⟩⟩
      · rw [List.getElem?_append_right (by omega), List.getElem?_replicate] at e2
        split at e2 <;> cases e2
  · rcases lc e with a | ⟨_, a⟩
    · exact ⟨_, x.cell y c a⟩
    · obtain ⟨v, z⟩ := (C.all y c a).2
      exact ⟨v, cellK z⟩
  · rcases lc e with a | ⟨_, a⟩
    · exact e0.hok.fresh (up a)
    · exact (C.all y c a).1
  · have clen := C.len
    unfold startF
    show _ = N.length
    rw [List.length_append, List.length_append, List.length_map, List.length_replicate]
    omega
end
section
variable {CX : CXT} {P : Program} {w : World} {K : PySem.W.Frag} {mg : Str → Option Value} {base : Heap} {N ps fr : List Str} {F : NF} {f : Addr} {k : Nat} {sp : List (Option V) → Sp}
/-- a nested def by its body, with cells of its own -/
theorem nok_ofC (S : NScC N ps fr F.scope) (hb : ∀ (doc pm ctv : Value) (us : List Value), us.length = ps.length → bindArgs (F.fd doc pm ctv) ⟨us, []⟩ = pure (ps.zip us)) (len : ∀ ws vs H Q E, sp ws vs H Q E → vs.length = ps.length)
    (hbody : ∀ (A : Around) (outer : List Env) (s : Shared) (H : Hp) (vs : List V) (ws : List (Option V)) (Q : VK) (E : XK), Room k (A.deeper (envFC F f s.heap.objs.size)) → H f = some (FnO f F) → H F.c = some (CodeO F.c F.qual) → ws.length = fr.length → sp ws vs H Q E →
      ∃ t, PSs (ncxC CX P w K mg base N F f A outer s H E) F.body t ∧ t { nx := fun _ H' => Q .non H', rt := Q } (startF N vs ws) H) :
    NOk P w K mg base CX (k + 1) f F ps fr sp := by
  refine ⟨len, fun A outer s H us vs ws Q E hr e0 hf hc C r hsp => ?_⟩
  have hl := len _ _ _ _ _ hsp
  have lim : s.heap.NoLimit := e0.mod.nolimit.keeps fun b o e => (e0.bs b o e).1
  obtain ⟨od, sl, doc, pm, ctv, ho⟩ := fnO_at e0.hok hf
  have hkind : ∀ y ∈ ps.zip us, F.scope.names.lookup y.1 = some .local ∨ (F.scope.names.lookup y.1 = some .cell ∧ ((cellsFrom (s.heap.objs.size + 1) F.scope.names []).lookup y.1).isSome = true) := fun ⟨n, v⟩ hy => by
    rcases S.par n (List.of_mem_zip hy).1 with q | q
    · exact .inl q
    · exact .inr ⟨q, PySem.W.cellsFrom_some _ _ _ (.inl q)⟩
  refine codeAny_call_function hr.depth ho rfl S.co S.gen rfl (codeO_at e0.hok hc) ?_
  rw [hb doc pm ctv us (by rw [← r.length]; exact hl)]
  refine wpAny_pure (wpAny_newFunctionEnv_own S.kind hkind fun env he s1 x => ?_)
  subst he
  refine ⟨lim.keeps x.toInCall.keep, codeAny_func ?_⟩
  obtain ⟨t, ht, hq⟩ := hbody A outer s H vs ws Q E (hr.deeper _) hf hc C.len hsp
  have I : Inv (ncxC CX P w K mg base N F f A outer s H E) [] (startF N vs ws) H s1 := inv_startC S hr.hd e0 hl r C x
  refine wpAny_mono (ht.run [] s1 (startF N vs ws) H _ I hq) (fun fl s' hs => ?_) fun e s' hs => hs
  have fin : ∀ {σ' : L2.St} {H' : Hp} {v : V} {u : Value}, Inv (ncxC CX P w K mg base N F f A outer s H E) [] σ' H' s' → L2.RelV v u → Q v H' → CE outer P w H s Q u s' :=
    fun {σ' H' v u} J rv q => ⟨v, H', J.os, J.bare, J.base, J.hok, rv, q⟩
  cases fl with
  | ret u =>
    obtain ⟨v, σ', H', J, rv, q⟩ := hs
    exact fin J rv q
  | next =>
    obtain ⟨σ', H', J, q⟩ := hs
    exact fin (v := V.non) (u := Value.none) J rfl q
  | brk =>
    obtain ⟨_, _, _, q⟩ := hs
    exact False.elim q
  | cont =>
    obtain ⟨_, _, _, q⟩ := hs
    exact False.elim q
end
end LH

namespace LU
open PySem PySem.Spec PyProof.Rows L2 LH
/-- a statement that is never come to -/
theorem ps_never {X : Cx} {st : Stmt} : PS X st (fun _ _ _ => False) := ⟨fun _ _ _ _ _ _ h => h.elim⟩
def tMidU (t : TE) : TE := fun σ H Q => ∃ M : V → Hp → Prop, t σ H M ∧ ∀ v H', M v H' → Q v H'
/-- an expression of which some ways end alike -/
theorem pe_midU {X : Cx} {e : Expr} {t : TE} (h : PE X e t) : PE X e (tMidU t) := by
  refine ⟨fun pins s σ H Q I q => ?_⟩
  obtain ⟨M, h1, h2⟩ := q
  refine thn (h.run pins s σ H _ I h1) fun u s1 ⟨x, H1, I1, r, m⟩ => ?_
  exact ⟨x, H1, I1, r, h2 x H1 m⟩
/-! ### sorted(dict), its keys pairs of numbers -/
def pk (q : Int × Int) : NestedKey := .tup [.num q.1, .num q.2]
def unpk : NestedKey → Int × Int
  | .tup [.num a, .num b] => (a, b)
  | _ => (0, 0)
def leP (a b : Int × Int) : Prop := a.1 < b.1 ∨ (a.1 = b.1 ∧ a.2 ≤ b.2)
instance (a b : Int × Int) : Decidable (leP a b) := inferInstanceAs (Decidable (_ ∨ _))
def dPk (q : Int × Int) : PyData := .tuple [.int q.1, .int q.2]
theorem le_dPk (a b : Int × Int) : PySem.W.dataLe false dPk a b = decide (leP a b) := by
  have e : decide (leP a b) = decide (a.1 < b.1 ∨ (a.1 = b.1 ∧ a.2 ≤ b.2)) := decide_eq_decide.mpr Iff.rfl
  rw [e]
  show (!PySem.W.dataLt (dPk b) (dPk a)) = _
  unfold dPk
  rw [PySem.W.dataLt_pair (by simp [PySem.W.alike]) (by simp [PySem.W.alike]), PySem.W.dataLt_int, PySem.W.dataLt_int]
  simp only [PyData.eqv, beq_iff_eq]
  by_cases h : b.1 = a.1
  · rw [if_pos h, h]
    by_cases e : b.2 = a.2
    · rw [if_pos e, e]
      simp
    · rw [if_neg e, PySem.W.not_lt_int]
      simp
  · rw [if_neg h, PySem.W.not_lt_int]
    have h' : ¬ a.1 = b.1 := fun z => h z.symm
    simp only [h', false_and, or_false]
    by_cases q : a.1 < b.1
    · rw [decide_eq_true q, decide_eq_true (by omega)]
    · rw [decide_eq_false q, decide_eq_false (by omega)]
theorem trio_pk {H : Hp} {q : Int × Int} {v : V} (h : NV H (pk q) v) : ∃ t, v = .ref t ∧ H t = some (.tup [.int q.1, .int q.2]) := by
  cases h with
  | tup e r =>
    cases r with
    | cons a r =>
      cases r with
      | cons b r =>
        cases r
        cases a
        cases b
        exact ⟨_, rfl, e⟩
theorem call_sortedU {X : Cx} (w : World) (hw : X.w = w) (hu : X.A.units + 64 < cLine) (hc : X.calm = true) : CallR X (.builtin "sorted") (fun xs H Q => ∃ (a : Addr) (kvs : List (NestedKey × V)) (ks : List (Int × Int)), xs = [V.ref a] ∧ UAt w H a kvs ∧ kvs.map (·.1) = ks.map pk ∧
    ∀ (p : Addr) (vs : List V) (ls : List (Int × Int)), H p = none → ls.Perm ks → ls.Pairwise leP → NVs H (ls.map pk) vs → Q (.ref p) (upd H p (.lst vs))) := by
  subst hw
  intro pins s σ H xs us Q I r h
  obtain ⟨a, kvs, ks, rfl, g, hk, q⟩ := h
  obtain ⟨u, rfl, ru⟩ := vals1 r
  cases ru
  obtain ⟨ys, rs, ob, es, ep, ea, ksd, c, hz, hs, rr, ud⟩ := g.ud I.hok
  have l1 : es.size = rs.length := ud.size
  have l2 : ys.length = rs.length := rr.len
  have ck : ys.map (·.1) = ks.map pk := by rw [← hk, ← c, List.map_map]; rfl
  have l3 : ys.length = ks.length := by
    have := congrArg List.length ck
    rwa [List.length_map, List.length_map] at this
  refine Calls.call_function_entry PyProof.Rows.kind_sorted PyProof.Rows.plain_sorted PyProof.Rows.entry_sorted (PyProof.Rows.args_sorted1 _) ?_
  unfold Builtin.«sorted»
  refine wpAny_bind (m := checkCount "sorted" 1 1 _) (wpAny_pure ?_)
  refine wpAny_bind (PySem.W.kdu_collect (A := X.A.in1) (kdl_raw hs ud.exact_ ud.data) (I.ok.hd hc) ud.get (by omega) fun h' tk acc hk' hacc => ?_)
  have I1 : Inv X pins σ H { s with heap := h', toks := tk } := I.kept hk'
  have hal : acc.toList.length = ys.length := by rw [Array.length_toList, hacc.1, l1, l2]
  -- the items
  have item : ∀ (j : Nat) (v : Value), acc.toList[j]? = some v → ∃ x, ys[j]? = some x ∧ RelV x.2.1 v := fun j v e => by
    obtain ⟨en, e1, rfl⟩ := hacc.2 j v (by rw [← Array.getElem?_toList]; exact e)
    have e2 := ud.at_ j
    rw [e1] at e2
    cases hj : rs[j]? with
    | none => rw [hj] at e2; cases e2
    | some y =>
      rw [hj] at e2
      obtain rfl : en = ent X.w y := Option.some.inj e2
      obtain ⟨x, hx, _, r1, _⟩ := rr.at_ hj
      exact ⟨x, hx, r1⟩
  have each : ∀ (R : Value → Trio → Prop), (∀ v x, x ∈ ys → RelV x.2.1 v → R v x) → PySem.W.EachIs R acc.toList ys := fun R hR => by
    have go : ∀ (as : List Value) (zs : List Trio), as.length = zs.length → (∀ x ∈ zs, x ∈ ys) → (∀ (j : Nat) (v : Value), as[j]? = some v → ∃ x, zs[j]? = some x ∧ RelV x.2.1 v) → PySem.W.EachIs R as zs := by
      intro as
      induction as with
      | nil =>
        intro zs hl _ _
        cases zs with
        | nil => exact .nil
        | cons _ _ => simp at hl
      | cons v as ih =>
        intro zs hl hm hi
        cases zs with
        | nil => simp at hl
        | cons z zs =>
          obtain ⟨x, hx, rx⟩ := hi 0 v rfl
          obtain rfl : z = x := Option.some.inj hx
          exact .cons (hR _ _ (hm _ List.mem_cons_self) rx) (ih zs (by simpa using hl) (fun y hy => hm y (List.mem_cons_of_mem _ hy)) fun j v e => hi (j + 1) v e)
    exact go _ _ hal (fun _ h => h) item
  refine wpAny_bind (wpAny_newList ?_ (by rw [hal]; exact hz))
  have hoL : (h'.push (seqObj "list" acc.toList.toArray 0)).get? h'.objs.size = some (seqObj "list" acc.toList.toArray 0) := Heap.get?_push_size _ rfl
  show wpAny _ _ _ _ _ { s with heap := h'.push (seqObj "list" acc.toList.toArray 0), toks := tk }
  have key : ∀ x ∈ ys, ∃ qq : Int × Int, x.1 = pk qq ∧ unpk x.1 = qq := fun x hx => by
    have : x.1 ∈ ks.map pk := by rw [← ck]; exact List.mem_map.mpr ⟨x, hx, rfl⟩
    obtain ⟨qq, _, e⟩ := List.mem_map.mp this
    exact ⟨qq, e.symm, by rw [← e]; rfl⟩
  have old : ∀ b o, h'.get? b = some o → (h'.push (seqObj "list" acc.toList.toArray 0)).get? b = some o := fun b o e => Heap.get?_push_of_some _ e
  have e1 := each (fun v x => RelV x.2.1 v) fun _ _ _ h => h
  have e2 := each (fun v x => ∃ as, Reads (h'.push (seqObj "list" acc.toList.toArray 0)) v (dPk (unpk x.1)) as ∧ h'.objs.size ∉ as) fun v x hx rx => by
    obtain ⟨qq, k1, k2⟩ := key x hx
    have nv := (ksd x hx).1
    rw [k1] at nv
    obtain ⟨t, k3, k4⟩ := trio_pk nv
    rw [k3] at rx
    obtain rfl : v = Value.ref t := rx
    obtain ⟨_, its2, r2, o, ho, hcl, n, hd⟩ := I1.hok _ _ k4
    obtain ⟨u1, u2, rfl, ri, rj⟩ := vals2 r2
    obtain ⟨t1, rfl⟩ := ri
    obtain ⟨t2, rfl⟩ := rj
    rw [k2]
    refine ⟨_, .tuple (old _ _ ho) hcl hd (.cons (.int _ _) (.cons (.int _ _) .nil)), ?_⟩
    simp
  refine wpAny_bind (wpAny_holding (PySem.W.list_sort_data (s := { s with heap := h'.push (seqObj "list" acc.toList.toArray 0), toks := tk }) (enc := fun x : Trio => dPk (unpk x.1)) (R := fun v x => RelV x.2.1 v) hoL e1 e2 (PySem.W.AllAlike.of fun b b' => by simp [dPk, PySem.W.alike, PySem.W.alikeAll]) (PySem.W.Sortable.tuples fun b => ⟨_, _, rfl⟩) hz (fun b _ => ?_) fun out ho eo => ?_))
  · have : (dPk (unpk b.1)).depth = 1 := by
      unfold dPk
      simp [PyData.depth, PyData.depthAll]
    rw [Around.in1_units]
    omega
  · obtain ⟨e', he'⟩ := PyProof.Rows.sortedHeap_at (vs := acc.toList) (out := out.toArray) hoL
    have le : ∀ x y : Trio, PySem.W.dataLe false (fun x : Trio => dPk (unpk x.1)) x y = decide (leP (unpk x.1) (unpk y.1)) := fun x y => le_dPk (unpk x.1) (unpk y.1)
    have tr : ∀ x y z : Trio, PySem.W.dataLe false (fun x : Trio => dPk (unpk x.1)) x y = true → PySem.W.dataLe false (fun x : Trio => dPk (unpk x.1)) y z = true → PySem.W.dataLe false (fun x : Trio => dPk (unpk x.1)) x z = true := fun x y z => by
      rw [le, le, le, decide_eq_true_iff, decide_eq_true_iff, decide_eq_true_iff]
      unfold leP
      omega
    have to : ∀ x y : Trio, (PySem.W.dataLe false (fun x : Trio => dPk (unpk x.1)) x y || PySem.W.dataLe false (fun x : Trio => dPk (unpk x.1)) y x) = true := fun x y => by
      rw [le, le, Bool.or_eq_true, decide_eq_true_iff, decide_eq_true_iff]
      unfold leP
      omega
    have pm : (ys.mergeSort (PySem.W.dataLe false fun x : Trio => dPk (unpk x.1))).Perm ys := List.mergeSort_perm _ _
    have pw := List.pairwise_mergeSort tr to ys
    generalize ys.mergeSort (PySem.W.dataLe false fun x : Trio => dPk (unpk x.1)) = zs at pm pw eo
    have rvs : Vals (zs.map (·.2.1)) out := by
      clear pm pw he' e' ho
      induction eo with
      | nil => exact .nil
      | cons h _ ih => exact .cons h ih
    have kz : zs.map (·.1) = (zs.map fun x => unpk x.1).map pk := by
      rw [List.map_map]
      refine List.map_congr_left fun x hx => ?_
      obtain ⟨qq, k1, k2⟩ := key x (pm.mem_iff.mp hx)
      show x.1 = pk (unpk x.1)
      rw [k2, k1]
    have nz : NVs H ((zs.map fun x => unpk x.1).map pk) (zs.map (·.2.1)) := by
      rw [← kz]
      have all : ∀ x ∈ zs, NV H x.1 x.2.1 := fun x hx => (ksd x (pm.mem_iff.mp hx)).1
      clear pm pw he' e' ho rvs kz eo
      induction zs with
      | nil => exact .nil
      | cons x r ih => exact .cons (all x List.mem_cons_self) (ih fun y hy => all y (List.mem_cons_of_mem _ hy))
    have pk1 : (zs.map fun x => unpk x.1).Perm ks := by
      have e := pm.map fun x : Trio => unpk x.1
      have : ys.map (fun x : Trio => unpk x.1) = ks := by
        have e2 : ys.map (fun x : Trio => unpk x.1) = (ys.map (·.1)).map unpk := by rw [List.map_map]; rfl
        rw [e2, ck, List.map_map]
        conv => rhs; rw [← List.map_id ks]
        rfl
      rw [this] at e
      exact e
    have pw1 : (zs.map fun x => unpk x.1).Pairwise leP := by
      rw [List.pairwise_map]
      refine pw.imp fun {x y} h => ?_
      rw [le, decide_eq_true_iff] at h
      exact h
    have hlen : (zs.map (·.2.1)).length ≤ sizeLine := by
      rw [List.length_map, pm.length_eq]
      exact hz
    refine wpAny_pure ⟨_, rfl, .ref h'.objs.size, upd H h'.objs.size (.lst (zs.map (·.2.1))), I1.laid (t' := tk) (fun b u e => ?_) (Nat.le_refl _)
      (show ObjOk X.prog X.w _ _ _ (.lst (zs.map (·.2.1))) from ⟨hlen, out, e', rvs, he'⟩), rfl, q _ _ _ (I1.hok.fresh (Nat.le_refl _)) pk1 pw1 nz⟩
    have hb : b < h'.objs.size := Heap.lt_size e
    rw [PyProof.Rows.sortedHeap_old (Nat.ne_of_lt hb) (by rw [size_push']; exact Nat.lt_succ_of_lt hb)]
    exact Heap.get?_push_of_some _ e
end LU

namespace LU
open PySem PySem.Spec PyProof.Rows L2 LH
def tMidT (t : TT) : TT := fun σ H Q => ∃ M : Bool → Hp → Prop, t σ H M ∧ ∀ c H', M c H' → Q c H'
/-- a test of which some ways end alike -/
theorem pt_midU {X : Cx} {e : Expr} {t : TT} (h : PT X e t) : PT X e (tMidT t) := ⟨fun pins s σ H Q I q => by
  obtain ⟨M, h1, h2⟩ := q
  exact thn (h.run pins s σ H M I h1) fun b s1 ⟨H1, I1, m⟩ => ⟨H1, I1, h2 b H1 m⟩⟩
end LU

namespace LU
open PySem PySem.Spec PyProof.Rows L2 LH
/-- s.index(y, i) where it is found -/
theorem mt_index3 {X : Cx} : MtR X "str.index" (fun x xs H Q => ∃ (a b : Str) (i : Int) (k : Nat) (rest : List Nat), x = .str a ∧ xs = [.str b, .int i] ∧ Builtin.Str.occurrences a b (PySem.fromIndex a.length i) a.length 1 = k :: rest ∧ Q (.int (k : Nat)) H) := by
  intro pins s σ H x xs v us Q I rx rs h
  obtain ⟨a, b, i, k, rest, rfl, rfl, ho, q⟩ := h
  obtain ⟨t, rfl⟩ := rx
  cases rs with
  | cons r1 rs =>
    cases rs with
    | cons r2 rs =>
      cases rs
      obtain ⟨u, rfl⟩ := r1
      obtain ⟨z, rfl⟩ := r2
      exact call_gives PySem.F.slot_str_index (typeIs_str _ _ _) PySem.F.entry_str_index (PySem.F.args_str_index_3 _ _ _) (gives_str_index_from a b i t u z k rest ho) ⟨.int (k : Nat), H, I.tok _, ⟨_, rfl⟩, q⟩
end LU

namespace LH
open PySem PySem.Spec PyProof.Rows L2
/-! ### sorted(list of texts), of any length -/
theorem leS_total : PySem.W.TotalLe fun a b : Str => decide (a.cps.toList ≤ b.cps.toList) where
  trans a b c h1 h2 := decide_eq_true (Std.le_trans (of_decide_eq_true h1) (of_decide_eq_true h2))
  total a b := by
    rw [decide_eq_true_iff, decide_eq_true_iff]
    exact Std.le_total
theorem pwS_sorted : ∀ {l : List Str}, (l.Pairwise fun a b => ltCps b.cps.toList a.cps.toList = false) → sortedS l = true
  | [], _ => rfl
  | [x], _ => rfl
  | x :: y :: r, h => by
    obtain ⟨h1, h2⟩ := List.pairwise_cons.mp h
    have ih := pwS_sorted h2
    show (!ltCps y.cps.toList x.cps.toList && sortedS (y :: r)) = true
    rw [h1 y List.mem_cons_self, ih]
    rfl
theorem each_valsS : ∀ {xs : List Str} {us : List Value}, Vals (xs.map V.str) us → PySem.W.EachIs (fun (u : Value) (x : Str) => RelV (.str x) u) us xs
  | [], _, .nil => .nil
  | _ :: _, _, .cons h t => .cons h (each_valsS t)
theorem valsS_each : ∀ {xs : List Str} {us : List Value}, PySem.W.EachIs (fun (u : Value) (x : Str) => RelV (.str x) u) us xs → Vals (xs.map V.str) us
  | _, _, .nil => .nil
  | _, _, .cons h t => .cons h (valsS_each t)
section
variable {X : Cx} (K : PySem.W.Frag) (hK : X.K = K)
include hK
theorem call_sortedX (hu : X.A.units + 64 < cLine) : CallR X (.builtin "sorted") (fun vs H Q => ∃ (a : Addr) (xs : List Str), vs = [.ref a] ∧ SqL K H a (xs.map V.str) ∧ ∀ ys p, ys.Perm xs → sortedS ys = true → H p = none → Q (.ref p) (upd H p (.lst (ys.map V.str)))) := by
  subst hK
  intro pins s σ H vs us Q I r h
  obtain ⟨a, xs, rfl, hs, q⟩ := h
  obtain ⟨its, rv, hl, hz⟩ := I.list hs
  rw [List.length_map] at hz
  obtain ⟨u, rfl, ru⟩ := vals1 r
  obtain rfl : u = Value.ref a := ru
  have e1 := each_valsS rv
  have e2 : PySem.W.EachIs (fun v (b : Str) => ∃ as, Reads s.heap v (.str b) as) its xs := by
    have go : ∀ {xs : List Str} {us : List Value}, PySem.W.EachIs (fun (u : Value) (x : Str) => RelV (.str x) u) us xs → PySem.W.EachIs (fun v (b : Str) => ∃ as, Reads s.heap v (.str b) as) us xs := by
      intro xs us h
      induction h with
      | nil => exact .nil
      | cons h _ ih =>
        obtain ⟨t, rfl⟩ := h
        exact .cons ⟨_, .str _ _⟩ ih
    exact go e1
  refine PySem.W.sorted_data (R := fun (u : Value) (x : Str) => RelV (.str x) u) (enc := PyData.str) hl.isList e1 e2 (PySem.W.AllAlike.of fun b b' => by simp [PySem.W.alike]) (PySem.W.Sortable.others fun b => ⟨by simp, by simp⟩) hz (fun b _ => ?_) fun out ho eo => ?_
  · have : (PyData.str b).depth = 0 := by simp [PyData.depth]
    omega
  · obtain ⟨e, he⟩ := PyProof.Rows.sortedAll_at s.heap its out.toArray
    rw [show PySem.W.dataLe false PyData.str = fun a b : Str => decide (a.cps.toList ≤ b.cps.toList) from PySem.W.dataLe_str (fun b : Str => b)] at eo
    have fr : H (s.heap.objs.size + 1) = none := I.hok.fresh (Nat.le_succ _)
    refine ⟨.ref (s.heap.objs.size + 1), upd H (s.heap.objs.size + 1) (.lst ((xs.mergeSort fun a b => decide (a.cps.toList ≤ b.cps.toList)).map V.str)), ?_, rfl, q _ _ (List.mergeSort_perm _ _) (pwS_sorted ((PySem.W.sort_pairwise leS_total xs).imp fun h => ?_)) fr⟩
    · refine I.laid (t' := s.toks) (fun b o hb => PyProof.Rows.sortedAll_old hb) (Nat.le_succ _) (show ObjOk X.prog X.w _ _ _ (.lst _) from ⟨?_, out, e, valsS_each eo, he⟩)
      rw [List.length_map, List.length_mergeSort]
      exact hz
    · rw [ltCps_eq]
      exact decide_eq_false (Std.not_lt.mpr (of_decide_eq_true h))
end
end LH

namespace LH
open PySem PySem.Spec PyProof.Rows L2 NdefX LamX
/-! ### runs, the least ones -/
/-- a run, the last word first -/
inductive RP (F : List Nat → Prop) (S : List Nat → List Nat → Prop) : List (List Nat) → Prop
  | one {x : List Nat} : F x → RP F S [x]
  | more {c d : List Nat} {s : List (List Nat)} : RP F S (c :: s) → S c d → RP F S (d :: c :: s)
def rlt : List (List Nat) → List (List Nat) → Prop
  | [], _ => False
  | _ :: _, [] => False
  | x :: a, y :: b => rlt a b ∨ (a = b ∧ x < y)
theorem rlt_irr : ∀ a, ¬ rlt a a
  | [], h => h
  | x :: a, h => h.elim (rlt_irr a) fun h => List.lt_irrefl _ h.2
theorem rlt_trans : ∀ {a b c}, rlt a b → rlt b c → rlt a c
  | [], _, _, h, _ => h.elim
  | _ :: _, [], _, h, _ => h.elim
  | _ :: _, _ :: _, [], _, h => h.elim
  | x :: a, y :: b, z :: c, h, k => by
    rcases h with h | ⟨rfl, h⟩
    · rcases k with k | ⟨rfl, k⟩
      · exact .inl (rlt_trans h k)
      · exact .inl h
    · rcases k with k | ⟨rfl, k⟩
      · exact .inl k
      · exact .inr ⟨rfl, List.lt_trans h k⟩
def sl (a b : List (List Nat)) : Prop := a.length < b.length ∨ (a.length = b.length ∧ rlt a b)
theorem sl_irr (a : List (List Nat)) : ¬ sl a a := fun h => h.elim (Nat.lt_irrefl _) fun h => rlt_irr _ h.2
theorem sl_trans {a b c : List (List Nat)} (h : sl a b) (k : sl b c) : sl a c := by
  rcases h with h | ⟨e, h⟩
  · rcases k with k | ⟨e', k⟩
    · exact .inl (Nat.lt_trans h k)
    · exact .inl (e' ▸ h)
  · rcases k with k | ⟨e', k⟩
    · exact .inl (e ▸ k)
    · exact .inr ⟨e.trans e', rlt_trans h k⟩
theorem sl_cons {a b : List (List Nat)} (x y : List Nat) (h : sl a b) : sl (x :: a) (y :: b) := by
  rcases h with h | ⟨e, h⟩
  · exact .inl (Nat.succ_lt_succ h)
  · exact .inr ⟨congrArg Nat.succ e, .inl h⟩
theorem sl_last {x y : List Nat} (a : List (List Nat)) (h : x < y) : sl (x :: a) (y :: a) := .inr ⟨rfl, .inr ⟨rfl, h⟩⟩
theorem sl_more (a : List (List Nat)) (d : List Nat) : sl a (d :: a) := .inl (Nat.lt_succ_self _)
def le_ (a b : List (List Nat)) : Prop := a = b ∨ sl a b
theorem le_refl_ (a : List (List Nat)) : le_ a a := .inl rfl
theorem le_trans_ {a b c : List (List Nat)} (h : le_ a b) (k : le_ b c) : le_ a c := by
  rcases h with rfl | h
  · exact k
  · rcases k with rfl | k
    · exact .inr h
    · exact .inr (sl_trans h k)
theorem le_anti {a b : List (List Nat)} (h : le_ a b) (k : le_ b a) : a = b := by
  rcases h with h | h
  · exact h
  · rcases k with k | k
    · exact k.symm
    · exact absurd (sl_trans h k) (sl_irr _)
theorem le_cons {a b : List (List Nat)} (d : List Nat) (h : le_ a b) : le_ (d :: a) (d :: b) := by
  rcases h with rfl | h
  · exact .inl rfl
  · exact .inr (sl_cons _ _ h)
theorem le_len {a b : List (List Nat)} (h : le_ a b) : a.length ≤ b.length := by
  rcases h with rfl | h | h
  · exact Nat.le_refl _
  · exact Nat.le_of_lt h
  · exact Nat.le_of_eq h.1
/-- the queue: runs, each one's last word first; t have been gone through, of the next one those that D says -/
structure QI (F : List Nat → Prop) (S : List Nat → List Nat → Prop) (ps : List (List (List Nat))) (t : Nat) (D : List Nat → Prop) : Prop where
  path : ∀ r ∈ ps, RP F S r
  srt : ps.Pairwise sl
  par : ∀ x c s, (x :: c :: s) ∈ ps → ∃ i, ps[i]? = some (c :: s) ∧ (i < t ∨ (i = t ∧ D x))
  fst : ∀ d, F d → [d] ∈ ps
  cl : ∀ i c s d, ps[i]? = some (c :: s) → (i < t ∨ (i = t ∧ D d)) → S c d → ∃ r, (d :: r) ∈ ps ∧ le_ (d :: r) (d :: c :: s)
  nd : (ps.map fun r => r.headD []).Nodup
section
variable {F : List Nat → Prop} {S : List Nat → List Nat → Prop} {ps : List (List (List Nat))} {t : Nat} {D : List Nat → Prop}
theorem pw_get {α : Type} {R : α → α → Prop} {l : List α} (h : l.Pairwise R) {i j : Nat} {a b : α} (ha : l[i]? = some a) (hb : l[j]? = some b) (hij : i < j) : R a b := by
  obtain ⟨h1, rfl⟩ := List.getElem?_eq_some_iff.mp ha
  obtain ⟨h2, rfl⟩ := List.getElem?_eq_some_iff.mp hb
  exact List.pairwise_iff_getElem.mp h i j h1 h2 hij
theorem QI.first {fs : List (List Nat)} (h : fs.Pairwise (· < ·)) : QI (fun d => d ∈ fs) S (fs.map fun d => [d]) 0 (fun _ => False) := by
  refine ⟨fun r hr => ?_, ?_, fun x c s hr => ?_, fun d hd => List.mem_map.mpr ⟨d, hd, rfl⟩, fun i c s d _ hi => ?_, ?_⟩
  · obtain ⟨d, hd, rfl⟩ := List.mem_map.mp hr
    exact .one hd
  · exact List.pairwise_map.mpr (h.imp fun h => sl_last [] h)
  · obtain ⟨d, hd, e⟩ := List.mem_map.mp hr
    cases e
  · rcases hi with h | h
    · exact absurd h (Nat.not_lt_zero _)
    · exact h.2.elim
  · rw [List.map_map]
    have : (fs.map ((fun r : List (List Nat) => r.headD []) ∘ fun d => [d])) = fs := by
      conv => rhs; rw [← List.map_id fs]
      rfl
    rw [this]
    exact List.Pairwise.imp (R := fun a b => a < b) (fun {a b} (h : a < b) (e : a = b) => List.lt_irrefl b (e ▸ h)) h
theorem QI.next (h : QI F S ps t D) {c : List Nat} {s : List (List Nat)} (e : ps[t]? = some (c :: s)) (all : ∀ d, S c d → D d) : QI F S ps (t + 1) (fun _ => False) := by
  refine ⟨h.path, h.srt, fun x c' s' hr => ?_, h.fst, fun i c' s' d hi ht hs => ?_, h.nd⟩
  · obtain ⟨i, e1, e2⟩ := h.par x c' s' hr
    exact ⟨i, e1, .inl (by rcases e2 with e2 | e2 <;> omega)⟩
  · rcases ht with ht | ht
    · by_cases z : i = t
      · subst z
        rw [e] at hi
        obtain ⟨rfl, rfl⟩ := List.cons.inj (Option.some.inj hi)
        exact h.cl _ _ _ d e (.inr ⟨rfl, all d hs⟩) hs
      · exact h.cl _ _ _ d hi (.inl (by omega)) hs
    · exact ht.2.elim
/-- a run of the queue against one that goes on from the next one -/
theorem QI.below (h : QI F S ps t D) {c : List Nat} {s : List (List Nat)} (e : ps[t]? = some (c :: s)) {x : List Nat} {r : List (List Nat)} (hr : (x :: r) ∈ ps) : (r.length < (c :: s).length ∨ sl r (c :: s)) ∨ (r = c :: s ∧ D x) := by
  cases r with
  | nil => exact .inl (.inl (Nat.succ_pos _))
  | cons c' s' =>
    obtain ⟨i, e1, e2⟩ := h.par x c' s' hr
    rcases e2 with e2 | ⟨rfl, e3⟩
    · exact .inl (.inr (pw_get h.srt e1 e e2))
    · rw [e] at e1
      exact .inr ⟨(Option.some.inj e1).symm, e3⟩
theorem QI.skip (h : QI F S ps t D) {c d : List Nat} {s : List (List Nat)} (e : ps[t]? = some (c :: s)) (hd : ∃ r, (d :: r) ∈ ps) : QI F S ps t (fun x => D x ∨ x = d) := by
  refine ⟨h.path, h.srt, fun x c' s' hr => ?_, h.fst, fun i c' s' d' hi ht hs => ?_, h.nd⟩
  · obtain ⟨i, e1, e2⟩ := h.par x c' s' hr
    exact ⟨i, e1, e2.imp id fun z => ⟨z.1, .inl z.2⟩⟩
  · rcases ht with ht | ⟨rfl, ht | rfl⟩
    · exact h.cl _ _ _ _ hi (.inl ht) hs
    · exact h.cl _ _ _ _ hi (.inr ⟨rfl, ht⟩) hs
    · rw [e] at hi
      obtain ⟨rfl, rfl⟩ := List.cons.inj (Option.some.inj hi)
      obtain ⟨r, hr⟩ := hd
      refine ⟨r, hr, ?_⟩
      rcases h.below e hr with (z | z) | z
      · exact .inr (.inl (Nat.succ_lt_succ z))
      · exact .inr (sl_cons _ _ z)
      · rw [z.1]
        exact .inl rfl
theorem QI.push (h : QI F S ps t D) {c d : List Nat} {s : List (List Nat)} (e : ps[t]? = some (c :: s)) (hs : S c d) (lt : ∀ x, D x → x < d) (new : ∀ r, (d :: r) ∉ ps) : QI F S (ps ++ [d :: c :: s]) t (fun x => D x ∨ x = d) := by
  have htl := (List.getElem?_eq_some_iff.mp e).1
  have keep : ∀ {i : Nat} {r : List (List Nat)}, ps[i]? = some r → (ps ++ [d :: c :: s])[i]? = some r := fun {i r} hi => by
    rw [List.getElem?_append_left (List.getElem?_eq_some_iff.mp hi).1]
    exact hi
  have hin := List.mem_of_getElem? e
  refine ⟨fun r hr => ?_, ?_, fun x c' s' hr => ?_, fun x hx => List.mem_append_left _ (h.fst x hx), fun i c' s' d' hi ht hs' => ?_, ?_⟩
  · rcases List.mem_append.mp hr with hr | hr
    · exact h.path r hr
    · rw [List.mem_singleton.mp hr]
      exact .more (h.path _ hin) hs
  · refine List.pairwise_append.mpr ⟨h.srt, List.pairwise_singleton _ _, fun r hr y hy => ?_⟩
    rw [List.mem_singleton.mp hy]
    cases r with
    | nil => cases h.path _ hr
    | cons x r =>
      rcases h.below e hr with (z | z) | ⟨rfl, z⟩
      · exact .inl (Nat.succ_lt_succ z)
      · exact sl_cons _ _ z
      · exact sl_last _ (lt x z)
  · rcases List.mem_append.mp hr with hr | hr
    · obtain ⟨i, e1, e2⟩ := h.par x c' s' hr
      exact ⟨i, keep e1, e2.imp id fun z => ⟨z.1, .inl z.2⟩⟩
    · cases List.mem_singleton.mp hr
      exact ⟨t, keep e, .inr ⟨rfl, .inr rfl⟩⟩
  · have hi' : ps[i]? = some (c' :: s') := by
      rw [List.getElem?_append_left (by rcases ht with h | h <;> omega)] at hi
      exact hi
    rcases ht with ht | ⟨rfl, ht | rfl⟩
    · obtain ⟨r, h1, h2⟩ := h.cl _ _ _ _ hi' (.inl ht) hs'
      exact ⟨r, List.mem_append_left _ h1, h2⟩
    · obtain ⟨r, h1, h2⟩ := h.cl _ _ _ _ hi' (.inr ⟨rfl, ht⟩) hs'
      exact ⟨r, List.mem_append_left _ h1, h2⟩
    · rw [e] at hi'
      obtain ⟨rfl, rfl⟩ := List.cons.inj (Option.some.inj hi')
      exact ⟨_, List.mem_append_right _ (List.mem_singleton.mpr rfl), .inl rfl⟩
  · rw [List.map_append]
    refine List.nodup_append.mpr ⟨h.nd, by simp, fun x hx y hy z => ?_⟩
    obtain ⟨r, hr, rfl⟩ := List.mem_map.mp hx
    rw [List.mem_singleton.mp hy] at z
    cases r with
    | nil => cases h.path _ hr
    | cons x r =>
      have z : x = d := z
      exact new r (z ▸ hr)
theorem QI.reach (h : QI F S ps t fun _ => False) {q : List (List Nat)} (hq : RP F S q) : (∃ i x s q', q = x :: q' ∧ ps[i]? = some (x :: s) ∧ i < t ∧ le_ (x :: s) q) ∨ ∃ i p, t ≤ i ∧ ps[i]? = some p ∧ le_ p q := by
  have ways : ∀ {x : List Nat} {r q' : List (List Nat)}, (x :: r) ∈ ps → le_ (x :: r) (x :: q') → (∃ i y s q'', x :: q' = y :: q'' ∧ ps[i]? = some (y :: s) ∧ i < t ∧ le_ (y :: s) (x :: q')) ∨ ∃ i p, t ≤ i ∧ ps[i]? = some p ∧ le_ p (x :: q') := fun {x r q'} hr hl => by
    obtain ⟨i, hi⟩ := List.mem_iff_getElem?.mp hr
    by_cases z : i < t
    · exact .inl ⟨i, x, r, q', rfl, hi, z, hl⟩
    · exact .inr ⟨i, _, by omega, hi, hl⟩
  induction hq with
  | one hx => exact ways (h.fst _ hx) (.inl rfl)
  | more hr hs ih =>
    rcases ih with ⟨i, x, s', q', e, hi, hlt, hl⟩ | ⟨i, p, hi, hp, hl⟩
    · obtain ⟨rfl, rfl⟩ := List.cons.inj e
      obtain ⟨r, h1, h2⟩ := h.cl _ _ _ _ hi (.inl hlt) hs
      exact ways h1 (le_trans_ h2 (le_cons _ hl))
    · exact .inr ⟨i, p, hi, hp, le_trans_ hl (.inr (sl_more _ _))⟩
/-- the least run to one of B -/
def LeastR (F : List Nat → Prop) (S : List Nat → List Nat → Prop) (B : List Nat → Prop) (r : List (List Nat)) : Prop := RP F S r ∧ (∃ b s, r = b :: s ∧ B b) ∧ ∀ b s, RP F S (b :: s) → B b → le_ r (b :: s)
theorem LeastR.one {B : List Nat → Prop} {r q : List (List Nat)} (h : LeastR F S B r) (k : LeastR F S B q) : r = q := by
  obtain ⟨b, s, rfl, hb⟩ := h.2.1
  obtain ⟨b', s', rfl, hb'⟩ := k.2.1
  exact le_anti (h.2.2 _ _ k.1 hb') (k.2.2 _ _ h.1 hb)
theorem QI.least {B : List Nat → Prop} (h : QI F S ps t fun _ => False) (no : ∀ i c s, i < t → ps[i]? = some (c :: s) → ¬ B c) {b : List Nat} {s : List (List Nat)} (e : ps[t]? = some (b :: s)) (hb : B b) : LeastR F S B (b :: s) := by
  refine ⟨h.path _ (List.mem_of_getElem? e), ⟨b, s, rfl, hb⟩, fun b' s' hr hb' => ?_⟩
  rcases h.reach hr with ⟨i, x, s', q', e', hi, hlt, _⟩ | ⟨i, p, hi, hp, hl⟩
  · obtain ⟨rfl, rfl⟩ := List.cons.inj e'
    exact absurd hb' (no i _ _ hlt hi)
  · refine le_trans_ ?_ hl
    by_cases z : i = t
    · rw [z, e] at hp
      exact .inl (Option.some.inj hp)
    · exact .inr (pw_get h.srt e hp (by omega))
theorem QI.none {B : List Nat → Prop} (h : QI F S ps t fun _ => False) (ht : ps.length ≤ t) (no : ∀ i c s, i < t → ps[i]? = some (c :: s) → ¬ B c) {b : List Nat} {s : List (List Nat)} (hr : RP F S (b :: s)) : ¬ B b := by
  rcases h.reach hr with ⟨i, x, s', q', e', hi, hlt, _⟩ | ⟨i, p, hi, hp, hl⟩
  · obtain ⟨rfl, rfl⟩ := List.cons.inj e'
    exact no i _ _ hlt hi
  · have := (List.getElem?_eq_some_iff.mp hp).1
    omega
end
end LH

namespace LH
open PySem PySem.Spec PyProof.Rows L2
section
variable {X : Cx}
/-- sorted(d) of a dict of any many keys, all texts -/
theorem call_sortedDX (hu : X.A.units + 64 < cLine) (hcalm : X.calm = true) : CallR X (.builtin "sorted") (fun xs H Q => ∃ (a : Addr) (kvs : List (Key × V)) (ks : List Str), xs = [.ref a] ∧ H a = some (.dK kvs) ∧ kvs.map (·.1) = ks.map Sum.inr ∧
    ∀ ys p, ys.Perm ks → sortedS ys = true → H p = none → Q (.ref p) (upd H p (.lst (ys.map V.str)))) := by
  intro pins s σ H xs us Q I r q
  obtain ⟨a, kvs, ks, ex, hd, hks, q⟩ := q
  subst ex
  obtain ⟨u, eu, rx⟩ := vals1 r
  subst eu
  cases rx
  obtain ⟨z, lo, vs, rel, dd⟩ := dk_rd I.hok (.inl hd)
  obtain ⟨ep, hat⟩ := dd.dictAt
  have hkeys : vs.map (·.1) = ks.map Sum.inr := rel.keys.symm.trans hks
  have hl : vs.length = ks.length := by
    have e := congrArg List.length hkeys
    rw [List.length_map, List.length_map] at e
    exact e
  have h16 : vs.length ≤ sizeLine := by rw [← rel.length]; exact z
  refine Calls.call_function_entry PyProof.Rows.kind_sorted PyProof.Rows.plain_sorted PyProof.Rows.entry_sorted (PyProof.Rows.args_sorted1 _) ?_
  unfold Builtin.«sorted»
  refine wpAny_bind (m := checkCount "sorted" 1 1 _) (wpAny_pure ?_)
  refine wpAny_bind (PySem.W.kdu_collect (A := X.A.in1) (PySem.W.kdl_dict (knd := mixKind X.prog X.w) (kvs := vs) (ep := ep) lo) (I.ok.hd hcalm) hat h16 fun h' tk acc hk hacc => ?_)
  have hal : acc.toList.length = ks.length := by rw [Array.length_toList, hacc.1, hl]
  have hS : StrsAre acc.toList ks := strs_at hal fun j v e => by
    obtain ⟨k, x, e1, e2⟩ := hacc.2 j v (by rw [← Array.getElem?_toList]; exact e)
    have e3 : (vs.map (·.1))[j]? = some k := by rw [List.getElem?_map, e1]; all_goals rfl
    rw [hkeys, List.getElem?_map] at e3
    cases e4 : ks[j]? with
    | none => rw [e4] at e3; cases e3
    | some y =>
      rw [e4] at e3
      have e5 : Sum.inr y = k := Option.some.inj e3
      subst e5
      obtain ⟨t, ev⟩ := Value.isStrOf_shape (x := y) (v := v) e2
      exact ⟨y, t, rfl, ev⟩
  have I1 : Inv X pins σ H { s with heap := h', toks := tk } := I.kept hk
  have hz : ks.length ≤ sizeLine := by rw [← hl]; exact h16
  refine wpAny_bind (wpAny_newList ?_ (by rw [hal]; exact hz))
  have hoL : (h'.push (seqObj "list" acc.toList.toArray 0)).get? h'.objs.size = some (seqObj "list" acc.toList.toArray 0) := Heap.get?_push_size _ rfl
  show wpAny _ _ _ _ _ { s with heap := h'.push (seqObj "list" acc.toList.toArray 0), toks := tk }
  have go : ∀ {as : List Value} {zs : List Str}, StrsAre as zs → PySem.W.EachIs (fun (u : Value) (x : Str) => RelV (.str x) u) as zs := by
    intro as zs h
    induction h with
    | nil => exact .nil
    | cons x t _ ih => exact .cons ⟨t, rfl⟩ ih
  have e1 := go hS
  have e2 : PySem.W.EachIs (fun v (b : Str) => ∃ as, Reads (h'.push (seqObj "list" acc.toList.toArray 0)) v (.str b) as ∧ h'.objs.size ∉ as) acc.toList ks := e1.mono fun u x h => by
    obtain ⟨t, rfl⟩ := h
    exact ⟨_, .str _ _, by simp⟩
  refine wpAny_bind (wpAny_holding (PySem.W.list_sort_data (s := { s with heap := h'.push (seqObj "list" acc.toList.toArray 0), toks := tk }) (enc := PyData.str) (R := fun (u : Value) (x : Str) => RelV (.str x) u) hoL e1 e2 (PySem.W.AllAlike.of fun b b' => by simp [PySem.W.alike]) (PySem.W.Sortable.others fun b => ⟨by simp, by simp⟩) hz (fun b _ => ?_) fun out ho eo => ?_))
  · have : (PyData.str b).depth = 0 := by simp [PyData.depth]
    rw [Around.in1_units]
    omega
  · obtain ⟨e', he'⟩ := PyProof.Rows.sortedHeap_at (vs := acc.toList) (out := out.toArray) hoL
    rw [show PySem.W.dataLe false PyData.str = fun a b : Str => decide (a.cps.toList ≤ b.cps.toList) from PySem.W.dataLe_str (fun b : Str => b)] at eo
    have pm : (ks.mergeSort fun a b => decide (a.cps.toList ≤ b.cps.toList)).Perm ks := List.mergeSort_perm _ _
    have pw := (PySem.W.sort_pairwise leS_total ks)
    generalize ks.mergeSort (fun a b => decide (a.cps.toList ≤ b.cps.toList)) = zs at pm pw eo
    have hlen : (zs.map V.str).length ≤ sizeLine := by
      rw [List.length_map, pm.length_eq]
      exact hz
    refine wpAny_pure ⟨_, rfl, .ref h'.objs.size, upd H h'.objs.size (.lst (zs.map V.str)), I1.laid (t' := tk) (fun b u e => ?_) (Nat.le_refl _)
      (show ObjOk X.prog X.w _ _ _ (.lst (zs.map V.str)) from ⟨hlen, out, e', valsS_each eo, he'⟩), rfl, q zs _ pm (pwS_sorted (pw.imp fun h => ?_)) (I1.hok.fresh (Nat.le_refl _))⟩
    · have hb : b < h'.objs.size := Heap.lt_size e
      rw [PyProof.Rows.sortedHeap_old (Nat.ne_of_lt hb) (by rw [size_push']; exact Nat.lt_succ_of_lt hb)]
      exact Heap.get?_push_of_some _ e
    · rw [ltCps_eq]
      exact decide_eq_false (Std.not_lt.mpr (of_decide_eq_true h))
end
end LH

namespace LH
open PySem PySem.Spec PyProof.Rows L2 HT
/-! ### tuple[::k], k one or minus one -/
section
variable {prog : Program} {w : World} {A : Around} {E : Value → Shared → Prop} {s : Shared}
theorem applied_step {sl : Addr} {vl vu vk : Value} {k : Int} {n : Nat} {Q : Int × Int × Nat → Shared → Prop} (hk : k = 1 ∨ k = -1) (hs : s.heap.IsSliceOf sl vl vu vk) (pl : IsPart vl none) (pu : IsPart vu none) (pk : IsPart vk (some k))
    (h : Q ((if k = 1 then (0 : Int) else (n : Int) - 1), k, n) s) : wpAny (model prog w) A (Builtin.Slice.sliceApplied (.ref sl) (pure (n : Int))) Q E s := by
  obtain ⟨os, hos, _, hds⟩ := id hs
  unfold Builtin.Slice.sliceApplied Builtin.Slice.sliceFields
  refine wpAny_bind (wpAny_bind (wpAny_field hos hds (x := vl) rfl (wpAny_bind (wpAny_field hos hds (x := vu) rfl (wpAny_bind (wpAny_field hos hds (x := vk) rfl (wpAny_pure ?_)))))))
  refine wpAny_bind (slicePart_ pk ?_)
  show wpAny _ _ (if (k == 0) = true then _ else _) _ _ s
  rw [if_neg (by rcases hk with rfl | rfl <;> decide)]
  refine wpAny_bind (slicePart_ pl (wpAny_bind (slicePart_ pu (wpAny_bind (wpAny_pure ?_)))))
  show wpAny _ _ (match Builtin.Slice.sliceAdjust none none k (n : Int) with | (lo, hi) => pure (lo, k, Builtin.Slice.slicePlaces lo hi k)) _ _ s
  rcases hk with rfl | rfl
  · have e : Builtin.Slice.slicePlaces 0 (n : Int) 1 = n := by
      unfold Builtin.Slice.slicePlaces
      rw [if_pos (by decide)]
      split <;> omega
    refine wpAny_pure ?_
    show Q ((0 : Int), (1 : Int), Builtin.Slice.slicePlaces 0 (n : Int) 1) s
    rw [e]
    exact h
  · have e : Builtin.Slice.slicePlaces ((n : Int) - 1) (-1) (-1) = n := by
      unfold Builtin.Slice.slicePlaces
      rw [if_neg (by decide), show (-(-1 : Int)) = 1 from rfl, Int.ediv_one]
      split <;> omega
    refine wpAny_pure ?_
    show Q ((n : Int) - 1, (-1 : Int), Builtin.Slice.slicePlaces ((n : Int) - 1) (-1) (-1)) s
    rw [e]
    exact h
theorem pick_back (xs : Array Value) : ((List.range xs.size).filterMap fun (m : Nat) => xs[((xs.size : Int) - 1 + (m : Int) * -1).toNat]?).toArray = xs.toList.reverse.toArray := by
  congr 1
  have : ∀ l : List Value, ∀ k, k ≤ l.length → ((List.range k).filterMap fun (m : Nat) => l[((l.length : Int) - 1 + (m : Int) * -1).toNat]?) = (l.reverse).take k := by
    intro l k
    induction k with
    | zero => intro _; rfl
    | succ k ih =>
      intro hk
      rw [List.range_succ, List.filterMap_append, ih (by omega)]
      have i1 : ((l.length : Int) - 1 + (k : Int) * -1).toNat = l.length - 1 - k := by omega
      have i2 : l[l.length - 1 - k]? = some (l[l.length - 1 - k]'(by omega)) := List.getElem?_eq_getElem _
      have i3 : l.reverse[k]? = l[l.length - 1 - k]? := List.getElem?_reverse (by omega)
      rw [List.take_add_one, i3, i2]
      simp only [List.filterMap_cons, List.filterMap_nil, i1, i2]
      rfl
  have h := this xs.toList xs.size (by rw [Array.length_toList]; exact Nat.le_refl _)
  rw [List.take_of_length_le (by rw [List.length_reverse, Array.length_toList]; exact Nat.le_refl _)] at h
  rw [← h]
  simp only [Array.length_toList, Array.getElem?_toList]
theorem getT_step {t sl : Addr} {items : Array Value} {vl vu vk : Value} {k : Int} {Q : Value → Shared → Prop} (hk : k = 1 ∨ k = -1) (ht : IsTup s.heap t items) (hs : s.heap.IsSliceOf sl vl vu vk) (pl : IsPart vl none) (pu : IsPart vu none) (pk : IsPart vk (some k))
    (h1 : k = 1 → Q (.ref t) s) (h2 : k = -1 → Q (.ref s.heap.objs.size) { s with heap := s.heap.push { cls := .type "tuple", data := .seq items.toList.reverse.toArray } }) (hsz : items.size ≤ sizeLine) : wpAny (model prog w) A (getItem (.ref t) (.ref sl)) Q E s := by
  have fits : sizeOk (.seq items.toList.reverse.toArray) := by
    show items.toList.reverse.toArray.size ≤ sizeLine
    rw [List.size_toArray, List.length_reverse, Array.length_toList]
    exact hsz
  obtain ⟨os, hos, hcs, _⟩ := id hs
  have ty : s.TypeIs (.ref sl) "slice" := ⟨os, hos, hcs⟩
  unfold getItem
  try with_reducible refine wpAny_holding ?_
  first | refine wpAny_bind (wpAny_pure ?_) | skip
  refine wpAny_bind (wpAny_sequenceKey ht.typeIs (by decide) ?_)
  refine wpAny_bind (wpAny_callSpecial?_slot (name := Str.ofString "__getitem__") ht.typeIs PyProof.Rows.slot_tuple_getitem (wpAny_call_entry PyProof.Rows.slot_tuple_getitem ht.typeIs entry_tuple_getitem ?_ (args_tuple_getitem _ _)))
  show wpAny _ _ (Builtin.Tuple.tupleItemsOf (.ref t) >>= _) _ _ s
  refine wpAny_bind (tupleItemsOf_ ht (wpAny_bind (wpAny_typeOf ty ?_)))
  rw [if_pos (by decide)]
  refine wpAny_bind (applied_step hk hs pl pu pk ?_)
  rcases hk with rfl | rfl
  · show wpAny _ _ (if ((0 : Int) == 0 && (1 : Int) == 1 && items.size == items.size) = true then _ else _) _ _ s
    rw [if_pos (by simp)]
    refine wpAny_bind ?_
    show wpAny _ _ (typeOf (.ref t) >>= fun T => pure (T == .type "tuple")) _ _ s
    refine wpAny_bind (wpAny_typeOf ht.typeIs (wpAny_pure ?_))
    first
      | rw [if_pos (by decide)]
      | simp only [beq_self_eq_true, if_true]
    first
      | exact wpAny_bind (wpAny_rule (wpAny_pure ⟨_, rfl, wpAny_pure (h1 rfl)⟩))
      | exact wpAny_bind (wpAny_rule (wpAny_bind (wpAny_pure (wpAny_pure ⟨_, rfl, wpAny_pure (h1 rfl)⟩))))
  · show wpAny _ _ (if (((items.size : Int) - 1) == 0 && (-1 : Int) == 1 && items.size == items.size) = true then _ else _) _ _ s
    rw [if_neg (by simp)]
    have h := h2 rfl
    rw [← pick_back] at h fits
    first
      | exact wpAny_bind (m := Builtin.Tuple.tupleExact _) (wpAny_newObj_type (wpAny_pure ⟨_, rfl, wpAny_pure h⟩) fits)
      | exact wpAny_bind (m := Builtin.Tuple.tupleExact _) (wpAny_newObj_type (wpAny_bind (wpAny_pure (wpAny_pure ⟨_, rfl, wpAny_pure h⟩))) fits)
      | exact wpAny_bind (wpAny_bind (m := Builtin.Tuple.tupleExact _) (wpAny_newObj_type (wpAny_pure (wpAny_pure ⟨_, rfl, wpAny_pure h⟩)) fits))
      | exact wpAny_bind (wpAny_bind (m := Builtin.Tuple.tupleExact _) (wpAny_newObj_type (wpAny_pure ⟨_, rfl, wpAny_pure h⟩) fits))
end
def tStepT (K : PySem.W.Frag) (te ts : TE) : TE := fun σ H Q => te σ H fun x H1 => ts σ H1 fun y H2 => ∃ (a : Addr) (xs : List V) (k : Int), x = .ref a ∧ y = .int k ∧ SqT K H2 a xs ∧ (k = 1 ∨ k = -1) ∧ (k = 1 → Q (.ref a) H2) ∧ (k = -1 → ∀ p, H2 p = none → Q (.ref p) (upd H2 p (.tup xs.reverse)))
theorem pe_stepT {X : Cx} (K : PySem.W.Frag) (hK : X.K = K) {e f : Expr} {te ts : TE} {p3 pos : Pos} (he : PE X e te) (hf : PE X f ts) : PE X (.Subscript e (.Slice none none (some f) p3) pos) (tStepT K te ts) := by
  subst hK
  refine ⟨fun pins s σ H Q I h => ?_⟩
  refine Subscript_ (thn (he.run pins s σ H _ I h) fun v s1 ⟨x, H1, I1, r1, q1⟩ => ?_)
  refine wpAny_Slice (thn (po_none.run pins s1 σ H1 (fun o H2 => o = none ∧ H2 = H1) I1 ⟨rfl, rfl⟩) fun vl s2 ⟨l, H2, I2, pl, el, e2⟩ => ?_)
  subst el e2
  refine thn (po_none.run pins s2 σ H2 (fun o H3 => o = none ∧ H3 = H2) I2 ⟨rfl, rfl⟩) fun vu s3 ⟨u, H3, I3, pu, eu, e3⟩ => ?_
  subst eu e3
  rw [evalPart_some]
  refine thn (hf.run pins s3 σ H3 _ I3 q1) fun vs s4 ⟨y, H4, I4, r4, q4⟩ => ?_
  obtain ⟨a, xs, k, ex, ey, hx, hk, g1, g2⟩ := q4
  subst ex ey
  cases r1
  obtain ⟨tk, rfl⟩ := r4
  have I5 : Inv X pins σ H4 { s4 with heap := s4.heap.push { cls := .type "slice", data := .fields #[vl, vu, .int k tk] } } := I4.kept (t' := s4.toks) fun b ob q => Heap.get?_push_of_some _ q
  obtain ⟨its, r, ht, hz⟩ := I5.tuple hx
  have hlen := r.length
  show wpAny (model X.prog X.w) X.A (subscriptTail e (.Slice none none (some f) p3) (.ref a) (.ref s4.heap.objs.size)) (EP X pins σ Q) X.xe { s4 with heap := s4.heap.push { cls := .type "slice", data := .fields #[vl, vu, .int k tk] } }
  have hz2 : its.toArray.size ≤ sizeLine := by rw [List.size_toArray, ← hlen]; exact hz
  refine tail_any (ops := [.ref a, .ref s4.heap.objs.size]) ht.typeIs PyProof.Rows.slot_tuple_getitem.lookup (getT_step hk ht (Heap.IsSliceOf.new _ vl vu (.int k tk)) pl pu (.int k tk) (fun z => ?_) (fun z => ?_) hz2) (by with_unfolding_all rfl)
  · exact ⟨.ref a, H4, I5, rfl, g1 z⟩
  · refine ⟨.ref _, _, I5.laid (t' := s4.toks) (o := .tup xs.reverse) (fun b ob q => Heap.get?_push_of_some _ q) (Nat.le_refl _) ?_, rfl, g2 z _ (I5.hok.fresh (Nat.le_refl _))⟩
    exact ⟨by rw [List.length_reverse]; exact hz, _, r.reverse, IsTup.new _ _⟩
end LH

namespace LH
open PySem PySem.Spec PyProof.Rows L2
/-! ### text[::b] -/
def stepS0 (z : Str) (b : Int) : Str := ⟨((Builtin.Str.strSliceIndices none none b z.length).filterMap (z.cps[·]?)).toArray⟩
def tStepS0 (te : TE) (tl ts : TO) : TE := fun σ H Q => te σ H fun x H1 => tl σ H1 fun l H2 => ts σ H2 fun o H3 =>
  ∃ (z : Str) (b : Int), x = .str z ∧ l = none ∧ o = some b ∧ b ≠ 0 ∧ (stepS0 z b).length ≤ sizeLine ∧ (b = 1 → (Builtin.Str.strSliceIndices none none b z.length).length = z.length → stepS0 z b = z) ∧ Q (.str (stepS0 z b)) H3
theorem pe_stepS0 {X : Cx} {e : Expr} {lo : Option Expr} {st : Expr} {te : TE} {tl ts : TO} {p3 pos : Pos} (he : PE X e te) (hl : PO X lo tl) (hs : PO X (some st) ts) : PE X (.Subscript e (.Slice lo none (some st) p3) pos) (tStepS0 te tl ts) := by
  refine ⟨fun pins s σ H Q I h => ?_⟩
  refine Subscript_ (thn (he.run pins s σ H _ I h) fun v s1 ⟨x, H1, I1, r1, q1⟩ => ?_)
  refine wpAny_Slice (thn (hl.run pins s1 σ H1 _ I1 q1) fun vl s2 ⟨l, H2, I2, pl, q2⟩ => ?_)
  refine thn (po_none.run pins s2 σ H2 (fun o H3 => o = none ∧ H3 = H2) I2 ⟨rfl, rfl⟩) fun vu s3 ⟨u, H3, I3, pu, eu, e3⟩ => ?_
  subst eu e3
  refine thn (hs.run pins s3 σ H3 _ I3 q2) fun vs s4 ⟨o, H4, I4, ps, q4⟩ => ?_
  obtain ⟨z, b, ex, ea, eb, hb, hz, hw, q⟩ := q4
  subst ex ea eb
  obtain ⟨t, rfl⟩ := r1
  have I5 : Inv X pins σ H4 { s4 with heap := s4.heap.push { cls := .type "slice", data := .fields #[vl, vu, vs] } } := I4.kept (t' := s4.toks) fun b ob q => Heap.get?_push_of_some _ q
  obtain ⟨l', rfl, hl'⟩ := IsPart.raw pl
  obtain ⟨u', rfl, hu'⟩ := IsPart.raw pu
  obtain ⟨st', rfl, hs'⟩ := IsPart.raw ps
  have eu : u' = none := by cases u' <;> simp_all
  subst eu
  have el : l' = none := by cases l' <;> simp_all
  subst el
  obtain ⟨c2, d2, rfl⟩ : ∃ c d, st' = some (c, d) := by
    cases st' with
    | none => simp at hs'
    | some p => exact ⟨p.1, p.2, rfl⟩
  have e2 : b = c2 := by simpa using hs'.symm
  subst e2
  refine tail_any (ops := [.str z t, .ref s4.heap.objs.size]) (typeIs_str _ _ _) F.slot_str_getitem.lookup ?_ (by with_unfolding_all rfl)
  refine wpAny_getItem_str_slice (l := none) (u := none) (st := some (b, d2)) ⟨_, Heap.get?_push_size _ rfl, rfl, rfl⟩ (by simpa using hb) ?_
  show Made.post (if (b == 1 && (Builtin.Str.strSliceIndices none none b z.length).length == z.length) = true then Made.val (.str z t) else Made.str (stepS0 z b)) (EP X pins σ Q) _
  by_cases hc : (b == 1 && (Builtin.Str.strSliceIndices none none b z.length).length == z.length) = true
  · rw [if_pos hc]
    rw [Bool.and_eq_true] at hc
    have ez := hw (by simpa using hc.1) (by simpa using hc.2)
    rw [ez] at q
    exact ⟨.str z, H4, I5, ⟨_, rfl⟩, q⟩
  · rw [if_neg hc]
    exact ⟨hz, .str _, H4, I5.tok _, ⟨_, rfl⟩, q⟩
end LH

namespace LH
open PySem PySem.Spec PyProof.Rows L2
/-! ### for sign, other in zip(text, text) (behind LSi) -/
def ItZZ (z y : Str) : It :=
  ⟨fun i H => ∃ (c d : Nat), z.cps[i]? = some c ∧ y.cps[i]? = some d,
    fun i H v H' => ∃ T c d, v = .ref T ∧ H T = none ∧ H' = upd H T (.tup [.str ⟨#[c]⟩, .str ⟨#[d]⟩]) ∧ z.cps[i]? = some c ∧ y.cps[i]? = some d,
    fun i H => i = min z.cps.size y.cps.size⟩
theorem walk_ZZ {z y : Str} {n : Nat} (h1 : z.cps.size = n) (h2 : y.cps.size = n) : Walk (ItZZ z y) n (fun _ => True) (YPair (fun i => (z.cps[i]?).map fun c => .str ⟨#[c]⟩) (fun i => (y.cps[i]?).map fun c => .str ⟨#[c]⟩)) :=
  ⟨fun i _ hi _ => ⟨z.cps[i], y.cps[i], Array.getElem?_eq_getElem (by omega), Array.getElem?_eq_getElem (by omega)⟩, fun _ _ => (by omega : n = min z.cps.size y.cps.size), fun i _ _ _ _ _ ⟨T, c, d, a1, a2, a3, a4, a5⟩ => ⟨T, .str ⟨#[c]⟩, .str ⟨#[d]⟩, a1, a2, a3, by show Option.map _ (z.cps[i]?) = _; rw [a4]; rfl, by show Option.map _ (y.cps[i]?) = _; rw [a5]; rfl⟩⟩
theorem turn_ZZ {P : Program} {w : World} {K : PySem.W.Frag} {elts : List Expr} {kk : Nat} {tpos : Pos} (z y : Str) (t0 t1 : Tok) (zz TI TO i1 i2 : Addr) (S : ZipSep2 zz TI TO i1 i2 [i1] [i2]) :
    Turn P w K (.Tuple elts kk tpos) (ItZZ z y) [zz, TI, TO, i1, i2] zz (fun i h => IsZip h zz TI TO .none ∧ IsTupOf2 h TI (.ref i1) (.ref i2) ∧ (∃ a1 a2, IsTupOf2 h TO a1 a2) ∧ h.IsStrIter i1 (strIterType z) z t0 i ∧ h.IsStrIter i2 (strIterType y) y t1 i) where
  mem := List.mem_cons_self
  obj := fun i h st b hb => by
    obtain ⟨h1, h2, ⟨x1, x2, h3⟩, ⟨o4, h4, _, d4⟩, ⟨o5, h5, _, d5⟩⟩ := st
    have e : b = zz ∨ b = TI ∨ b = TO ∨ b = i1 ∨ b = i2 := by simpa using hb
    rcases e with y | y | y | y | y
    · rw [y]
      exact ⟨_, h1, fun v q => nomatch q⟩
    · rw [y]
      exact ⟨_, h2, fun v q => nomatch q⟩
    · rw [y]
      exact ⟨_, h3, fun v q => nomatch q⟩
    · rw [y]
      exact ⟨o4, h4, fun v q => by rw [d4] at q; cases q⟩
    · rw [y]
      exact ⟨o5, h5, fun v q => by rw [d5] at q; cases q⟩
  keep := fun i h h' st k => by
    obtain ⟨h1, h2, ⟨x1, x2, h3⟩, h4, h5⟩ := st
    exact ⟨k zz (by simp) _ h1, k TI (by simp) _ h2, ⟨x1, x2, k TO (by simp) _ h3⟩, (let ⟨o, e, r⟩ := h4; ⟨o, k i1 (by simp) _ e, r⟩), (let ⟨o, e, r⟩ := h5; ⟨o, k i2 (by simp) _ e, r⟩)⟩
  item := by
    intro X hP hw hK hc i pins s σ H E I hf st hg
    subst hP hw hK
    obtain ⟨c, d, hcz, hdy⟩ := hg
    have D := WalksT.zipD2 (prog := X.prog) (w := X.w) (A := X.A) S (Draws.text (A := X.A.in1) (I.ok.hd hc) i1 z t0) (Draws.text (A := X.A.in1) (I.ok.hd hc) i2 y t1)
    have lt : i < min z.cps.size y.cps.size := Nat.lt_min.mpr ⟨(Array.getElem?_eq_some_iff.mp hcz).1, (Array.getElem?_eq_some_iff.mp hdy).1⟩
    obtain ⟨k1, k2, k3, k4, k5⟩ := st
    refine D.item i s _ _ lt ⟨k1, k2, k3, k4, k5⟩ fun T vals h1 tk hv hT tup mid m1 => ?_
    obtain ⟨v1, v2, ⟨c', tt, hc', rfl⟩, ⟨d', tt2, hd', rfl⟩, rfl⟩ := hv
    obtain rfl : c' = c := Option.some.inj (hc'.symm.trans hcz)
    obtain rfl : d' = d := Option.some.inj (hd'.symm.trans hdy)
    refine ⟨_, rfl, D.go elts kk tpos i T _ _ _ mid fun h2 st2 m2 => ?_⟩
    have tup2 : h2.IsTuple T #[.str ⟨#[c']⟩ tt, .str ⟨#[d']⟩ tt2] := tup.at fun o q => m2 T o (D.apart i T h1 mid) q
    have wr : ∀ b, b ∉ [zz, TI, TO, i1, i2] → b ∉ [zz, TO, i1, i2] := fun b hb z => hb (by
      simp only [List.mem_cons, List.not_mem_nil, or_false] at z ⊢
      rcases z with z | z | z | z
      · exact .inl z
      · exact .inr (.inr (.inl z))
      · exact .inr (.inr (.inr (.inl z)))
      · exact .inr (.inr (.inr (.inr z))))
    have I1 : Inv X pins σ (upd H T (.tup [.str ⟨#[c']⟩, .str ⟨#[d']⟩])) { s with heap := h2, toks := tk } :=
      I.turnedNew (ch := [zz, TI, TO, i1, i2]) (fun b o hb q => m2 b o (wr b hb) (m1 b o (wr b hb) q)) hf hT ⟨by show 2 ≤ sizeLine; decide, [.str ⟨#[c']⟩ tt, .str ⟨#[d']⟩ tt2], .cons ⟨_, rfl⟩ (.cons ⟨_, rfl⟩ .nil), tup2⟩
    obtain ⟨n1, n2, n3, n4, n5⟩ := st2
    refine ⟨.ref T, _, I1, rfl, ⟨T, c', d', rfl, I.hok.fresh hT, rfl, hcz, hdy⟩, ⟨n1, n2, n3, n4, n5⟩, fun b hb => ?_⟩
    have lb : b < s.heap.objs.size := by
      obtain ⟨x1, x2, k3⟩ := k3
      obtain ⟨o4, h4, _⟩ := k4
      obtain ⟨o5, h5, _⟩ := k5
      have e : b = zz ∨ b = TI ∨ b = TO ∨ b = i1 ∨ b = i2 := by simpa using hb
      rcases e with y | y | y | y | y
      · rw [y]; exact Heap.lt_size k1
      · rw [y]; exact Heap.lt_size k2
      · rw [y]; exact Heap.lt_size k3
      · rw [y]; exact Heap.lt_size h4
      · rw [y]; exact Heap.lt_size h5
    rw [upd_ne (Nat.ne_of_lt (Nat.lt_of_lt_of_le lb hT))]
    exact (hf b hb).1
  done := by
    intro X hP hw hK hc i pins s σ H E I hf st hg
    subst hP hw hK
    have hx : i = min z.cps.size y.cps.size := hg
    have D := WalksT.zipD2 (prog := X.prog) (w := X.w) (A := X.A) S (Draws.text (A := X.A.in1) (I.ok.hd hc) i1 z t0) (Draws.text (A := X.A.in1) (I.ok.hd hc) i2 y t1)
    rw [hx] at st
    obtain ⟨k1, k2, k3, k4, k5⟩ := st
    refine D.done s _ _ ⟨k1, k2, k3, k4, k5⟩ fun h1 tk m1 => ⟨rfl, I.turnedL (ch := [zz, TI, TO, i1, i2]) (fun b o hb q => m1 b o (fun z => hb ?_) q) hf⟩
    simp only [List.mem_cons, List.not_mem_nil, or_false] at z ⊢
    rcases z with z | z | z | z
    · exact .inl z
    · exact .inr (.inr (.inl z))
    · exact .inr (.inr (.inr (.inl z)))
    · exact .inr (.inr (.inr (.inr z)))
  self := fun A i s Q E st hQ => wpAny_pyIter_zip st.1 hQ
theorem sep_natZ (N : Nat) : ZipSep2 (N + 4) (N + 2) (N + 3) N (N + 1) [N] [N + 1] :=
  ⟨ne_a (by omega), ne_a (by omega), ne_a (by omega), ne_a (by omega), List.mem_cons_self, nin1 (ne_a (by omega)), nin1 (ne_a (by omega)), ne_a (by omega), List.mem_cons_self, nin1 (ne_a (by omega)), nin1 (ne_a (by omega)), nin1 (ne_a (by omega)), nin1 (ne_a (by omega))⟩
def iZipZZ (ta : TA) : TI := fun σ H R => ta σ H fun vs H1 => ∃ (z y : Str), vs = [.str z, .str y] ∧ R (ItZZ z y) H1
theorem pi_zipZZ {X : Cx} {e e2 : Expr} {ta : TA} {p pos tpos : Pos} {elts : List Expr} {kk : Nat} (hg : Gl X "zip") (hm : X.mg "zip" = none) (ha : PA X [e, e2] ta)
    (hs : starEach [e, e2] X.env = (false, eval e X.env) :: starEach [e2] X.env := by rfl) (hpl : (backTo pos (starEach [e2] X.env)).any (·.1) = false := by rfl) : PI X (.Tuple elts kk tpos) (.Call (.Name "zip" p) [e, e2] [] pos) (iZipZZ ta) := by
  refine ⟨fun pins s σ H R I h => ?_⟩
  refine Call_ (ld_blt I hg hm PyProof.Rows.boot_zip (PyProof.Rows.callWith_type1 (thn (ha.run pos pins s σ H _ I h) fun ws s2 ⟨vs, H2, I2, r2, q2⟩ => ?_) hs hpl))
  obtain ⟨z, y, ex, q⟩ := q2
  subst ex
  obtain ⟨u1, u2, rfl, ⟨t, rfl⟩, ⟨t2, rfl⟩⟩ := r2.two
  refine zip_begins2 (begins_text z t) (begins_text y t2) trivial trivial fun h' hz hTI hTO h1 h2 _ hk => wpAny_pyIter_zip hz ?_
  have I3 : Inv X pins σ H2 { s2 with heap := h' } := I2.kept (t' := s2.toks) hk
  refine ⟨s2.heap.objs.size + 4, [s2.heap.objs.size + 4, s2.heap.objs.size + 2, s2.heap.objs.size + 3, s2.heap.objs.size, s2.heap.objs.size + 1], _, _, H2, rfl, I3, turn_ZZ z y t t2 _ _ _ _ _ (sep_natZ s2.heap.objs.size), ⟨hz, hTI, ⟨_, _, hTO⟩, ⟨_, h1, rfl, rfl⟩, ⟨_, h2, rfl, rfl⟩⟩, fun b hb => ?_, q⟩
  have le := le_nat s2.heap.objs.size b hb
  exact I2.fpOk le (I2.hok.fresh le)
end LH

namespace LH
open PySem PySem.Spec PyProof.Rows L2
/-- set(text): a text of one sign each -/
theorem call_setS {z : Str} {t : Tok} {Q : Value → Shared → Prop} (hh : A.handled = none) (hb : (tAll (z.cps.toList.map sg)).length + 1 < scanBound)
    (h : ∀ (h' : Heap) (tk : Nat), TSet P w s.heap.objs.size (tAll (z.cps.toList.map sg)) h' → (∀ b o, b < s.heap.objs.size → s.heap.get? b = some o → h'.get? b = some o) → Q (.ref s.heap.objs.size) { s with heap := h', toks := tk }) :
    wpAny (model P w) A (call (.type "set") [.str z t]) Q E s := by
  obtain ⟨c, tl, hmro⟩ := PySem.F.called_set.mro
  have hmade := PySem.F.called_set.made
  have hsub := PySem.F.called_set.sub
  refine wpAny_call (codeAny_of_tree ?_)
  show wpAny _ _ (callAny (.type "set") _) _ _ _
  refine wpAny_pure ⟨Code.quiet_builtin _ (by decide +kernel), codeAny_builtin PySem.F.entry_type_call ?_⟩
  rw [Around.under_plain (weight_type_call_type "set" [.str z t] []) rfl]
  have h1 := PySem.F.called_set.notType
  have h2 := PySem.F.called_set.canCreate
  have hct := PySem.F.typeCall_set_1 (.str z t)
  repeat (any_goals (first | assumption | wp_step))
  refine codeAny_mono (set_made (.str z t) (E := E) (Q₁ := fun obj s₁ => obj = .ref s.heap.objs.size ∧ s₁ = { s with heap := s.heap.push (set0 w) }) ⟨rfl, rfl⟩) fun r s₁ hr => ?_
  cases r with
  | error e => exact hr
  | ok fl =>
    cases fl with
    | ret obj =>
      obtain ⟨rfl, rfl⟩ := hr
      have hS : (s.heap.push (set0 w)).get? s.heap.objs.size = some (set0 w) := Heap.get?_push_size _ rfl
      have hT : Shared.TypeIs { s with heap := s.heap.push (set0 w) } (.ref s.heap.objs.size) "set" := ⟨_, hS, rfl⟩
      have hli := PySem.F.called_set.init.lookup
      have hbi := PySem.F.called_set.init.bind (.ref s.heap.objs.size)
      repeat (any_goals (first | assumption | wp_step))
      refine codeAny_mono (codeAny_call_builtin (R := wants (fun r s₂ => r = .none ∧ ∃ h' tk, s₂ = { s with heap := h', toks := tk } ∧ TSet P w s.heap.objs.size (tAll (z.cps.toList.map sg)) h' ∧
          (∀ b o, b < s.heap.objs.size → s.heap.get? b = some o → h'.get? b = some o)) E) PySem.F.called_set.init.plain PySem.F.entry_set_init (check_set_init_1 hT ?_)) fun r₂ s₂ hr₂ => ?_
      · have hsls := PySem.F.sub_str_set
        have hslf := PySem.F.sub_str_frozenset
        have hne : (Value.type "str" == Value.type "dict") = false := by decide
        unfold Builtin.«set.__init__» noKeywords Builtin.Frozenset.updateFrom
        generalize hPI : pyIter = PI
        wp_walk
        subst hPI
        refine wpAny_pyIter_str fun o St hW h0 => wpAny_bind (wpAny_runValue ?_)
        have eS : (s.heap.push (set0 w)).objs.size = s.heap.objs.size + 1 := Heap.size_push ..
        have out : s.heap.objs.size ∉ [(s.heap.push (set0 w)).objs.size] := fun z => by
          have z := List.mem_singleton.mp z
          rw [eS] at z
          exact absurd z (Nat.ne_of_lt (Nat.lt_succ_self _))
        have hv : ∀ (i : Nat) (v : Value), SignAt z i v → ∃ x t, (z.cps.toList.map sg)[i]? = some x ∧ v = .str x t := fun i v q => by
          obtain ⟨c, tk, hc, rfl⟩ := q
          exact ⟨sg c, tk, by rw [List.getElem?_map, Array.getElem?_toList, hc]; rfl, rfl⟩
        refine tx_loop ((hW _ (by show A.in1.in1.in1.handled = none; simp [hh])).toS) s.heap.objs.size out (z.cps.toList.map sg) (by rw [List.length_map, Array.length_toList]) hb hv z.cps.size 0 _ (by omega) (Nat.zero_le _) h0 ?tx1 ?tx2
        case tx1 => exact tset_new (h := s.heap) (Heap.get?_push_of_some _ hS)
        case tx2 =>
          intro s' m T
          obtain ⟨h', g', d', tk', os'⟩ := s'
          obtain rfl : g' = s.gens := m.gens
          obtain rfl : d' = s.drawn := m.drawn
          obtain rfl : os' = s.os := m.os
          refine wpAny_pure (wpAny_pure ⟨rfl, h', tk', rfl, T, fun b o q e => ?_⟩)
          refine m.heap b o (fun z => ?_) (Heap.get?_push_of_some _ (Heap.get?_push_of_some _ e))
          rcases List.mem_cons.mp z with z | z
          · exact absurd z (Nat.ne_of_lt q)
          · have z := List.mem_singleton.mp z
            rw [eS] at z
            exact absurd z (Nat.ne_of_lt (Nat.lt_succ_of_lt q))
      · cases r₂ with
        | error e => exact hr₂
        | ok fl₂ =>
          cases fl₂ with
          | ret r =>
            obtain ⟨rfl, h', tk, rfl, T, hk⟩ := hr₂
            repeat (any_goals (first | assumption | wp_step))
            exact h _ _ T hk
          | _ => exact hr₂.elim
    | _ => exact hr.elim
section
variable {X : Cx}
/-- set(text) -/
def rSetS (P : Program) (w : World) : List V → Hp → VK → Prop := fun xs H Q => ∃ z : Str, xs = [.str z] ∧ z.length ≤ 4000 ∧ ∀ p, H p = none → Q (.ref p) (upd H p (SetT P w p (tAll (z.cps.toList.map sg))))
theorem cr_setS (hc : X.calm = true) : CallR X (.type "set") (rSetS X.prog X.w) := by
  intro pins s σ H xs us Q I r h
  obtain ⟨z, rfl, hl, q⟩ := h
  obtain ⟨u, rfl, rx⟩ := vals1 r
  obtain ⟨t, rfl⟩ := rx
  have h2 := tAll_len (z.cps.toList.map sg)
  rw [List.length_map, Array.length_toList] at h2
  have hl' : z.cps.size ≤ 4000 := hl
  have h3 : z.cps.toList.length = z.cps.size := Array.length_toList
  have h2 : (tAll (z.cps.toList.map sg)).length ≤ z.cps.size := h2
  refine call_setS (I.ok.hd hc) (by unfold scanBound; omega) fun h1 tk T k1 => ?_
  refine ⟨.ref s.heap.objs.size, _, I.laid (t' := tk) (fun b o e => k1 b o (Heap.lt_size e) e) (Nat.le_refl _) (setT_new T), rfl, q _ (I.hok.fresh (Nat.le_refl _))⟩
end
section
variable {X : Cx}
/-- len(set) -/
def rLenT (P : Program) (w : World) : List V → Hp → VK → Prop := fun xs H Q => ∃ (a : Addr) (l : List Str), xs = [.ref a] ∧ H a = some (SetT P w a l) ∧ l.length ≤ 1000000 ∧ Q (.int (l.length : Int)) H
theorem cr_lenT : CallR X (.builtin "len") (rLenT X.prog X.w) := by
  intro pins s σ H vs us Q I r h
  obtain ⟨a, l, rfl, ha, hl, q⟩ := h
  obtain ⟨nd, D, e, F, _⟩ := (I.hok a _ ha).1
  have sz := F.sz
  rw [Vals.ref1 r]
  refine call_len_set e ⟨rfl, rfl, rfl⟩ rfl F.fit (by omega) ⟨.int (l.length : Int), H, I.tok _, ⟨_, by rw [sz]⟩, q⟩
end
section
variable {X : Cx} (P : Program) (w : World) (hP : X.prog = P) (hw : X.w = w)
include hP hw
theorem cr_lenTK : CallR X (.builtin "len") (rLenT P w) := by subst hP hw; exact cr_lenT
end
section
variable {X : Cx} (P : Program) (w : World) (hP : X.prog = P) (hw : X.w = w) (hc : X.calm = true)
include hP hw hc
theorem cr_setSK : CallR X (.type "set") (rSetS P w) := by subst hP hw; exact cr_setS hc
end
end LH

namespace LH
open PySem PySem.Spec PyProof.Rows L2
/-! ### tuples of texts, dicts of texts at the top of a module -/
def ConstT (K : PySem.W.Frag) (a : Addr) (xs : List Str) : Prop := ∃ o its n, List.lookup a K = some o ∧ o.cls = Value.type "tuple" ∧ o.data = Data.seq its n ∧ its.size ≤ sizeLine ∧ Vals (xs.map V.str) its.toList
theorem ConstT.sq {K : PySem.W.Frag} {a : Addr} {xs : List Str} (h : ConstT K a xs) (H : Hp) : SqT K H a (xs.map V.str) := .inr h
def litS : List Value → List Str → Bool
  | [], [] => true
  | .str x _ :: r, y :: s => decide (x = y) && litS r s
  | _, _ => false
theorem litS_vals : ∀ {us : List Value} {xs : List Str}, litS us xs = true → Vals (xs.map V.str) us
  | [], [], _ => .nil
  | [], _ :: _, h => by cases h
  | u :: r, [], h => by cases u <;> cases h
  | u :: r, y :: s, h => by
    cases u with
    | str x t =>
      have h2 : (decide (x = y) && litS r s) = true := h
      rw [Bool.and_eq_true, decide_eq_true_iff] at h2
      obtain ⟨e, h3⟩ := h2
      exact .cons ⟨t, by rw [e]⟩ (litS_vals h3)
    | _ => cases h
theorem litS_len : ∀ {us : List Value} {xs : List Str}, litS us xs = true → us.length = xs.length
  | us, xs, h => by
    have := (litS_vals h).length
    rw [List.length_map] at this
    omega
theorem constT_mk {K : PySem.W.Frag} {a : Addr} {od : Option Addr} {its : Array Value} {n : Nat} {sl : Array (Option Value)} {xs : List Str} (h : K.lookup a = some ⟨.type "tuple", od, .seq its n, sl⟩) (v : litS its.toList xs = true) (few : xs.length ≤ 1000 := by decide) : ConstT K a xs := by
  refine ⟨_, its, n, h, rfl, rfl, ?_, litS_vals v⟩
  have := litS_len v
  rw [Array.length_toList] at this
  exact Nat.le_trans (show its.size ≤ 1000 by omega) (by decide)
def ConstD (K : PySem.W.Frag) (w : World) (a : Addr) (kvs : List (Str × Str)) : Prop := ∀ p ∈ kvs, KDct K w a p.1 (.str p.2)
theorem constD_mk {K : PySem.W.Frag} {w : World} {a : Addr} {ks : List Str} {kvs : List (Str × Str)} (h : He.dicW K a = some (He.keysIn w.params ks)) (g : ∀ p ∈ kvs, ∃ u, PySem.W.nsIn K a p.1 = some (some u) ∧ ∃ t, u = Value.str p.2 t) : ConstD K w a kvs := fun p hp => by
  obtain ⟨es, n, kd⟩ := He.dicW_ok h
  obtain ⟨u, e, t, rfl⟩ := g p hp
  exact ⟨es, n, _, kd.at_, kd.lit, e, t, rfl⟩
end LH

namespace LH
open PySem PySem.Spec PyProof.Rows L2
def topS (i : Nat) : Stmt := PySem.Challenge.pw_likehands_k83_texts_of_no_map.main.body.getD i (.Pass ⟨0, 0, 0, 0⟩)
abbrev s_items_in : Stmt := topS 8
abbrev N_items_in : List Str := ["branch", "items", "at", "end"]
theorem sc_items_in : FnScope N_items_in ["branch"] (defScope s_items_in) := ⟨rfl, rfl, rfl, by decide +kernel, rfl, by decide +kernel, by decide +kernel⟩
abbrev s_renamed : Stmt := topS 9
abbrev N_renamed : List Str := ["world", "names", "letters"]
theorem sc_renamed : FnScope N_renamed ["world", "names"] (defScope s_renamed) := ⟨rfl, rfl, rfl, by decide +kernel, rfl, by decide +kernel, by decide +kernel⟩
abbrev s_coarser : Stmt := topS 10
abbrev N_coarser : List Str := ["world", "names"]
theorem sc_coarser : FnScope N_coarser ["world", "names"] (defScope s_coarser) := ⟨rfl, rfl, rfl, by decide +kernel, rfl, by decide +kernel, by decide +kernel⟩
abbrev s_is_names : Stmt := topS 11
abbrev N_is_names : List Str := ["letters", "thing", "sign"]
theorem sc_is_names : FnScope N_is_names ["letters", "thing"] (defScope s_is_names) := ⟨rfl, rfl, rfl, by decide +kernel, rfl, by decide +kernel, by decide +kernel⟩
abbrev s_mapped : Stmt := topS 12
abbrev N_mapped : List Str := ["world", "names", "letters", "shape", "rules", "begin", "bad", "calls", "changed", "letter", "name", "rule"]
theorem sc_mapped : FnScope N_mapped ["world", "names"] (defScope s_mapped) := ⟨rfl, rfl, rfl, by decide +kernel, rfl, by decide +kernel, by decide +kernel⟩
abbrev s_rising : Stmt := topS 13
abbrev N_rising : List Str := ["signs"]
theorem sc_rising : FnScope N_rising ["signs"] (defScope s_rising) := ⟨rfl, rfl, rfl, by decide +kernel, rfl, by decide +kernel, by decide +kernel⟩
abbrev s_mapped_text : Stmt := topS 14
abbrev N_mapped_text : List Str := ["text", "calls", "sign"]
theorem sc_mapped_text : FnScope N_mapped_text ["text", "calls"] (defScope s_mapped_text) := ⟨rfl, rfl, rfl, by decide +kernel, rfl, by decide +kernel, by decide +kernel⟩
abbrev s_mapped_rule : Stmt := topS 15
abbrev N_mapped_rule : List Str := ["rule", "letters", "calls", "kind", "x", "y", "u", "v", "more", "how", "where", "some"]
theorem sc_mapped_rule : FnScope N_mapped_rule ["rule", "letters", "calls"] (defScope s_mapped_rule) := ⟨rfl, rfl, rfl, by decide +kernel, rfl, by decide +kernel, by decide +kernel⟩
abbrev s_mapped_image : Stmt := topS 16
abbrev N_mapped_image : List Str := ["image", "letters", "calls", "turns", "letter", "other", "name"]
theorem sc_mapped_image : FnScope N_mapped_image ["image", "letters", "calls"] (defScope s_mapped_image) := ⟨rfl, rfl, rfl, by decide +kernel, rfl, by decide +kernel, by decide +kernel⟩
abbrev s_mapped_pattern : Stmt := topS 17
abbrev N_mapped_pattern : List Str := ["pattern", "calls", "branch", "item"]
theorem sc_mapped_pattern : FnScope N_mapped_pattern ["pattern", "calls"] (defScope s_mapped_pattern) := ⟨rfl, rfl, rfl, by decide +kernel, rfl, by decide +kernel, by decide +kernel⟩
abbrev s_mapped_item : Stmt := topS 18
abbrev N_mapped_item : List Str := ["item", "calls", "signs", "close", "mark"]
theorem sc_mapped_item : FnScope N_mapped_item ["item", "calls"] (defScope s_mapped_item) := ⟨rfl, rfl, rfl, by decide +kernel, rfl, by decide +kernel, by decide +kernel⟩
abbrev s_law_draws : Stmt := topS 20
abbrev N_law_draws : List Str := ["script", "draws", "k", "rest", "stir", "many"]
theorem sc_law_draws : FnScope N_law_draws ["script"] (defScope s_law_draws) := ⟨rfl, rfl, rfl, by decide +kernel, rfl, by decide +kernel, by decide +kernel⟩
abbrev s_law_take : Stmt := topS 21
abbrev N_law_take : List Str := ["draws", "many"]
theorem sc_law_take : FnScope N_law_take ["draws", "many"] (defScope s_law_take) := ⟨rfl, rfl, rfl, by decide +kernel, rfl, by decide +kernel, by decide +kernel⟩
abbrev s_law_letters : Stmt := topS 22
abbrev N_law_letters : List Str := ["draws", "most", "some", "many", "found", "k"]
theorem sc_law_letters : FnScope N_law_letters ["draws", "most"] (defScope s_law_letters) := ⟨rfl, rfl, rfl, by decide +kernel, rfl, by decide +kernel, by decide +kernel⟩
abbrev s_law_some : Stmt := topS 23
abbrev N_law_some : List Str := ["draws", "letters", "found", "letter"]
theorem sc_law_some : FnScope N_law_some ["draws", "letters"] (defScope s_law_some) := ⟨rfl, rfl, rfl, by decide +kernel, rfl, by decide +kernel, by decide +kernel⟩
abbrev s_law_rule : Stmt := topS 24
abbrev N_law_rule : List Str := ["draws", "letters", "shape", "way", "signs", "signs_told", "where", "k", "letter"]
theorem sc_law_rule : FnScope N_law_rule ["draws", "letters", "shape"] (defScope s_law_rule) := ⟨rfl, rfl, rfl, by decide +kernel, rfl, by decide +kernel, by decide +kernel⟩
abbrev s_law_fitting : Stmt := topS 25
abbrev N_law_fitting : List Str := ["found", "items", "k"]
theorem sc_law_fitting : FnScope N_law_fitting ["found"] (defScope s_law_fitting) := ⟨rfl, rfl, rfl, by decide +kernel, rfl, by decide +kernel, by decide +kernel⟩
abbrev s_law_branches : Stmt := topS 26
abbrev N_law_branches : List Str := ["draws", "letters", "many", "left", "found", "k", "most", "items", "j", "kind", "text", "item"]
theorem sc_law_branches : FnScope N_law_branches ["draws", "letters"] (defScope s_law_branches) := ⟨rfl, rfl, rfl, by decide +kernel, rfl, by decide +kernel, by decide +kernel⟩
abbrev s_law_pattern : Stmt := topS 27
abbrev N_law_pattern : List Str := ["branches", "items"]
theorem sc_law_pattern : FnScope N_law_pattern ["branches"] (defScope s_law_pattern) := ⟨rfl, rfl, rfl, by decide +kernel, rfl, by decide +kernel, by decide +kernel⟩
abbrev s_law_pieces : Stmt := topS 28
abbrev N_law_pieces : List Str := ["draws", "most", "rules", "letters", "shape", "some", "k"]
theorem sc_law_pieces : FnScope N_law_pieces ["draws", "most", "rules"] (defScope s_law_pieces) := ⟨rfl, rfl, rfl, by decide +kernel, rfl, by decide +kernel, by decide +kernel⟩
abbrev s_law_world : Stmt := topS 29
abbrev N_law_world : List Str := ["pieces", "letters", "shape", "rules", "begin", "bad"]
theorem sc_law_world : FnScope N_law_world ["pieces"] (defScope s_law_world) := ⟨rfl, rfl, rfl, by decide +kernel, rfl, by decide +kernel, by decide +kernel⟩
abbrev s_law_refused : Stmt := topS 30
abbrev N_law_refused : List Str := ["way", "world", "text", "kinds", "e"]
theorem sc_law_refused : FnScope N_law_refused ["way", "world", "text"] (defScope s_law_refused) := ⟨rfl, rfl, rfl, by decide +kernel, rfl, by decide +kernel, by decide +kernel⟩
abbrev s_law_bad : Stmt := topS 31
abbrev N_law_bad : List Str := ["draws", "letters", "world", "some", "at", "signs", "sign", "letter"]
theorem sc_law_bad : FnScope N_law_bad ["draws", "letters", "world"] (defScope s_law_bad) := ⟨rfl, rfl, rfl, by decide +kernel, rfl, by decide +kernel, by decide +kernel⟩
abbrev s_law_alike : Stmt := topS 32
abbrev N_law_alike : List Str := ["draws", "letters", "some", "names", "k", "at", "other"]
theorem sc_law_alike : FnScope N_law_alike ["draws", "letters"] (defScope s_law_alike) := ⟨rfl, rfl, rfl, by decide +kernel, rfl, by decide +kernel, by decide +kernel⟩
abbrev s_law : Stmt := topS 33
abbrev N_law : List Str := ["script", "draws", "many", "pieces", "world", "letters", "k", "bad"]
theorem sc_law : FnScope N_law ["script"] (defScope s_law) := ⟨rfl, rfl, rfl, by decide +kernel, rfl, by decide +kernel, by decide +kernel⟩
structure TX (K : PySem.W.Frag) (mg : Str → Option Value) where
  a_items_in : Addr
  fd_items_in : FuncData
  F_items_in : Fun K "items_in" "items_in" s_items_in a_items_in fd_items_in
  b_items_in : Binds K fd_items_in ["branch"] []
  g_items_in : mg "items_in" = some (.ref a_items_in)
  a_renamed : Addr
  fd_renamed : FuncData
  F_renamed : Fun K "renamed" "renamed" s_renamed a_renamed fd_renamed
  b_renamed : Binds K fd_renamed ["world", "names"] []
  g_renamed : mg "renamed" = some (.ref a_renamed)
  a_coarser : Addr
  fd_coarser : FuncData
  F_coarser : Fun K "coarser" "coarser" s_coarser a_coarser fd_coarser
  b_coarser : Binds K fd_coarser ["world", "names"] []
  g_coarser : mg "coarser" = some (.ref a_coarser)
  a_is_names : Addr
  fd_is_names : FuncData
  F_is_names : Fun K "is_names" "is_names" s_is_names a_is_names fd_is_names
  b_is_names : Binds K fd_is_names ["letters", "thing"] []
  g_is_names : mg "is_names" = some (.ref a_is_names)
  a_mapped : Addr
  fd_mapped : FuncData
  F_mapped : Fun K "mapped" "mapped" s_mapped a_mapped fd_mapped
  b_mapped : Binds K fd_mapped ["world", "names"] []
  g_mapped : mg "mapped" = some (.ref a_mapped)
  a_rising : Addr
  fd_rising : FuncData
  F_rising : Fun K "rising" "rising" s_rising a_rising fd_rising
  b_rising : Binds K fd_rising ["signs"] []
  g_rising : mg "rising" = some (.ref a_rising)
  a_mapped_text : Addr
  fd_mapped_text : FuncData
  F_mapped_text : Fun K "mapped_text" "mapped_text" s_mapped_text a_mapped_text fd_mapped_text
  b_mapped_text : Binds K fd_mapped_text ["text", "calls"] []
  g_mapped_text : mg "mapped_text" = some (.ref a_mapped_text)
  a_mapped_rule : Addr
  fd_mapped_rule : FuncData
  F_mapped_rule : Fun K "mapped_rule" "mapped_rule" s_mapped_rule a_mapped_rule fd_mapped_rule
  b_mapped_rule : Binds K fd_mapped_rule ["rule", "letters", "calls"] []
  g_mapped_rule : mg "mapped_rule" = some (.ref a_mapped_rule)
  a_mapped_image : Addr
  fd_mapped_image : FuncData
  F_mapped_image : Fun K "mapped_image" "mapped_image" s_mapped_image a_mapped_image fd_mapped_image
  b_mapped_image : Binds K fd_mapped_image ["image", "letters", "calls"] []
  g_mapped_image : mg "mapped_image" = some (.ref a_mapped_image)
  a_mapped_pattern : Addr
  fd_mapped_pattern : FuncData
  F_mapped_pattern : Fun K "mapped_pattern" "mapped_pattern" s_mapped_pattern a_mapped_pattern fd_mapped_pattern
  b_mapped_pattern : Binds K fd_mapped_pattern ["pattern", "calls"] []
  g_mapped_pattern : mg "mapped_pattern" = some (.ref a_mapped_pattern)
  a_mapped_item : Addr
  fd_mapped_item : FuncData
  F_mapped_item : Fun K "mapped_item" "mapped_item" s_mapped_item a_mapped_item fd_mapped_item
  b_mapped_item : Binds K fd_mapped_item ["item", "calls"] []
  g_mapped_item : mg "mapped_item" = some (.ref a_mapped_item)
  a_law_draws : Addr
  fd_law_draws : FuncData
  F_law_draws : Fun K "_law_draws" "_law_draws" s_law_draws a_law_draws fd_law_draws
  b_law_draws : Binds K fd_law_draws ["script"] []
  g_law_draws : mg "_law_draws" = some (.ref a_law_draws)
  a_law_take : Addr
  fd_law_take : FuncData
  F_law_take : Fun K "_law_take" "_law_take" s_law_take a_law_take fd_law_take
  b_law_take : Binds K fd_law_take ["draws", "many"] []
  g_law_take : mg "_law_take" = some (.ref a_law_take)
  a_law_letters : Addr
  fd_law_letters : FuncData
  F_law_letters : Fun K "_law_letters" "_law_letters" s_law_letters a_law_letters fd_law_letters
  b_law_letters : Binds K fd_law_letters ["draws", "most"] []
  g_law_letters : mg "_law_letters" = some (.ref a_law_letters)
  a_law_some : Addr
  fd_law_some : FuncData
  F_law_some : Fun K "_law_some" "_law_some" s_law_some a_law_some fd_law_some
  b_law_some : Binds K fd_law_some ["draws", "letters"] []
  g_law_some : mg "_law_some" = some (.ref a_law_some)
  a_law_rule : Addr
  fd_law_rule : FuncData
  F_law_rule : Fun K "_law_rule" "_law_rule" s_law_rule a_law_rule fd_law_rule
  b_law_rule : Binds K fd_law_rule ["draws", "letters", "shape"] []
  g_law_rule : mg "_law_rule" = some (.ref a_law_rule)
  a_law_fitting : Addr
  fd_law_fitting : FuncData
  F_law_fitting : Fun K "_law_fitting" "_law_fitting" s_law_fitting a_law_fitting fd_law_fitting
  b_law_fitting : Binds K fd_law_fitting ["found"] []
  g_law_fitting : mg "_law_fitting" = some (.ref a_law_fitting)
  a_law_branches : Addr
  fd_law_branches : FuncData
  F_law_branches : Fun K "_law_branches" "_law_branches" s_law_branches a_law_branches fd_law_branches
  b_law_branches : Binds K fd_law_branches ["draws", "letters"] []
  g_law_branches : mg "_law_branches" = some (.ref a_law_branches)
  a_law_pattern : Addr
  fd_law_pattern : FuncData
  F_law_pattern : Fun K "_law_pattern" "_law_pattern" s_law_pattern a_law_pattern fd_law_pattern
  b_law_pattern : Binds K fd_law_pattern ["branches"] []
  g_law_pattern : mg "_law_pattern" = some (.ref a_law_pattern)
  a_law_pieces : Addr
  fd_law_pieces : FuncData
  F_law_pieces : Fun K "_law_pieces" "_law_pieces" s_law_pieces a_law_pieces fd_law_pieces
  b_law_pieces : Binds K fd_law_pieces ["draws", "most", "rules"] []
  g_law_pieces : mg "_law_pieces" = some (.ref a_law_pieces)
  a_law_world : Addr
  fd_law_world : FuncData
  F_law_world : Fun K "_law_world" "_law_world" s_law_world a_law_world fd_law_world
  b_law_world : Binds K fd_law_world ["pieces"] []
  g_law_world : mg "_law_world" = some (.ref a_law_world)
  a_law_refused : Addr
  fd_law_refused : FuncData
  F_law_refused : Fun K "_law_refused" "_law_refused" s_law_refused a_law_refused fd_law_refused
  b_law_refused : Binds K fd_law_refused ["way", "world", "text"] []
  g_law_refused : mg "_law_refused" = some (.ref a_law_refused)
  a_law_bad : Addr
  fd_law_bad : FuncData
  F_law_bad : Fun K "_law_bad" "_law_bad" s_law_bad a_law_bad fd_law_bad
  b_law_bad : Binds K fd_law_bad ["draws", "letters", "world"] []
  g_law_bad : mg "_law_bad" = some (.ref a_law_bad)
  a_law_alike : Addr
  fd_law_alike : FuncData
  F_law_alike : Fun K "_law_alike" "_law_alike" s_law_alike a_law_alike fd_law_alike
  b_law_alike : Binds K fd_law_alike ["draws", "letters"] []
  g_law_alike : mg "_law_alike" = some (.ref a_law_alike)
  m_ValueError : mg "ValueError" = none
  m_abs : mg "abs" = none
  m_all : mg "all" = none
  m_dict : mg "dict" = none
  m_isinstance : mg "isinstance" = none
  m_len : mg "len" = none
  m_list : mg "list" = none
  m_min : mg "min" = none
  m_range : mg "range" = none
  m_set : mg "set" = none
  m_sorted : mg "sorted" = none
  m_str : mg "str" = none
  m_tuple : mg "tuple" = none
  m_zip : mg "zip" = none
  A_HandsError : Addr
  x_HandsError : mg "HandsError" = some (.ref A_HandsError)
  A_NoMap : Addr
  x_NoMap : mg "NoMap" = some (.ref A_NoMap)
  A_NoPattern : Addr
  x_NoPattern : mg "NoPattern" = some (.ref A_NoPattern)
  A_NoRow : Addr
  x_NoRow : mg "NoRow" = some (.ref A_NoRow)
  A_NoStory : Addr
  x_NoStory : mg "NoStory" = some (.ref A_NoStory)
  A_NoWorld : Addr
  x_NoWorld : mg "NoWorld" = some (.ref A_NoWorld)
  e_NoMap : PySem.W.excIn K A_NoMap [.type "ValueError", .type "Exception", .type "BaseException", .type "object"] "ValueError.__new__" = true
  k_NoMap : PySem.W.keepIn K (.ref A_NoMap) = true
  b_NoMap : PySem.W.subIn K (.ref A_NoMap) (.type "BaseException") = some true
  t_NoMap : PySem.W.typeIn K (.ref A_NoMap) = some (.type "type")
  h1_NoMap : PySem.W.findIn K (.ref A_NoMap) "__getattribute__" = some (some (.builtin "BaseException.__getattribute__"))
  h2_NoMap : PySem.W.findIn K (.ref A_NoMap) "__getattr__" = some none
  h4_NoMap : PySem.W.hasDictIn K A_NoMap = true
  h5_NoMap : PySem.W.findIn K (.ref A_NoMap) "__class__" = some (some (.builtin "object.__class__"))
  h6_NoMap : PySem.W.specialIn K (.builtin "object.__class__") "__get__" = some (some (.builtin "getset_descriptor.__get__"))
  h7_NoMap : PySem.W.takesIn K (.builtin "object.__class__") = some true
  h8_NoMap : PySem.W.mroIn K A_NoMap (.type "object") = some true
  c1_NoMap_HandsError : PySem.W.subIn K (.ref A_HandsError) (.type "BaseException") = some true
  c2_NoMap_HandsError : PySem.W.hasDictIn K A_HandsError = true
  c3_NoMap_HandsError : PySem.W.typeIn K (.ref A_HandsError) = some (.type "type")
  c4_NoMap_HandsError : PySem.W.subIn K (.ref A_NoMap) (.ref A_HandsError) = some true
  q_NoMap_NoMap : PySem.W.kitOne K (.ref A_NoMap) (.ref A_NoMap) = some true
  q_NoMap_NoPattern : PySem.W.kitOne K (.ref A_NoMap) (.ref A_NoPattern) = some false
  q_NoMap_NoRow : PySem.W.kitOne K (.ref A_NoMap) (.ref A_NoRow) = some false
  q_NoMap_NoStory : PySem.W.kitOne K (.ref A_NoMap) (.ref A_NoStory) = some false
  q_NoMap_NoWorld : PySem.W.kitOne K (.ref A_NoMap) (.ref A_NoWorld) = some false
  q_NoMap_V : PySem.W.kitOne K (.ref A_NoMap) (.type "ValueError") = some true
/-! ### draws: lists of numbers, taken from ahead -/
def RowAt (H : Hp) (r : Addr) : Prop := ∃ ns : List Int, H r = some (.lst (ns.map V.int)) ∧ ns.length ≤ 1000
/-- all that was tracked, but for what stands at r, is as it was -/
def Off (r : Addr) (H H' : Hp) : Prop := ∀ b o, b ≠ r → H b = some o → H' b = some o
theorem Off.refl (r : Addr) (H : Hp) : Off r H H := fun _ _ _ h => h
theorem Off.trans {r : Addr} {H H1 H2 : Hp} (a : Off r H H1) (b : Off r H1 H2) : Off r H H2 := fun c o n h => b c o n (a c o n h)
theorem Off.of {r : Addr} {H H' : Hp} (a : Same H H') : Off r H H' := fun c o _ h => a c o h
theorem Off.new {r p : Addr} {H : Hp} {o : HO} (h : H p = none) : Off r H (upd H p o) := fun b x _ e => by
  rw [upd_ne (ne_of_none e h)]
  exact e
theorem Off.put {r : Addr} {H : Hp} {o : HO} : Off r H (upd H r o) := fun b x n e => by
  rw [upd_ne n]
  exact e
theorem Off.mut {r p : Addr} {H H' : Hp} {o : HO} (e : Off r H H') (h : H p = none) : Off r H (upd H' p o) := fun a u n ha => by
  rw [upd_ne (ne_of_none ha h)]
  exact e a u n ha
theorem Off.free {r p : Addr} {H H' : Hp} (e : Off r H H') (hr : r ≠ p) (h : H' p = none) : H p = none := by
  cases q : H p with
  | none => rfl
  | some o =>
    rw [e p o (Ne.symm hr) q] at h
    cases h
theorem RowAt.new {r p : Addr} {H : Hp} {o : HO} (x : RowAt H r) (h : H p = none) : RowAt (upd H p o) r := by
  obtain ⟨ns, e, q⟩ := x
  exact ⟨ns, by rw [upd_ne (ne_of_none e h)]; exact e, q⟩
theorem RowAt.upd {r p : Addr} {H : Hp} {o : HO} (x : RowAt H r) (h : r ≠ p) : RowAt (upd H p o) r := by
  obtain ⟨ns, e, q⟩ := x
  exact ⟨ns, by rw [upd_ne h]; exact e, q⟩
theorem RowAt.same {r : Addr} {H H' : Hp} (x : RowAt H r) (h : Same H H') : RowAt H' r := by
  obtain ⟨ns, e, q⟩ := x
  exact ⟨ns, h _ _ e, q⟩
theorem RowAt.ne {r p : Addr} {H : Hp} (x : RowAt H r) (h : H p = none) : r ≠ p := by
  obtain ⟨ns, e, q⟩ := x
  exact ne_of_none e h
theorem RowAt.neT {r p : Addr} {H : Hp} {xs : List V} (x : RowAt H r) (h : H p = some (.tup xs)) : p ≠ r := by
  obtain ⟨ns, e, q⟩ := x
  exact ne_of h e (by intro z; cases z)
theorem same_new {H : Hp} {p : Addr} {o : HO} (h : H p = none) : Same H (upd H p o) := fun b x e => by
  rw [upd_ne (ne_of_none e h)]
  exact e
theorem same_putN {H H' : Hp} {p : Addr} {o : HO} (e : Same H H') (h : H p = none) : Same H (L2.upd H' p o) := fun b x eb => by
  rw [upd_ne (ne_of_none eb h)]
  exact e b x eb
section
variable {P : Program} {w : World} {K : PySem.W.Frag} {mg : Str → Option Value} {base : Heap}
theorem dpI {K : PySem.W.Frag} {H : Hp} : ∀ ns : List Int, DpAll K H (ns.map V.int) (ns.map PyData.int)
  | [] => .nil
  | n :: r => .cons (.int _) (dpI r)
theorem shapedI (ns : List Int) : SeqAt.shaped (.list (ns.map PyData.int)) = true := by
  have all : PyData.canLayAll0 (ns.map PyData.int) = true ∧ PyData.depthAll (ns.map PyData.int) = 0 := by
    induction ns with
    | nil => exact ⟨rfl, rfl⟩
    | cons n r ih =>
      refine ⟨?_, ?_⟩
      · show (true && PyData.canLayAll0 (r.map PyData.int)) = true
        rw [ih.1]
        rfl
      · show max 0 (PyData.depthAll (r.map PyData.int)) = 0
        rw [ih.2]
        rfl
  unfold SeqAt.shaped
  rw [Bool.and_eq_true]
  refine ⟨all.1, decide_eq_true ?_⟩
  show PyData.depthAll (ns.map PyData.int) + 1 ≤ 64
  omega
theorem eqv_nilI (ns : List Int) : PyData.eqv (.list (ns.map PyData.int)) (.list []) = decide (ns = []) := by
  cases ns with
  | nil => rfl
  | cons x r => simp [PyData.eqv, PyData.eqvAll]
theorem vI_snoc (ns : List Int) (x : Int) : ns.map V.int ++ [V.int x] = (ns ++ [x]).map V.int := by
  rw [List.map_append]
  rfl
theorem vI_at {ns : List Int} {j : Nat} {x : V} (h : (ns.map V.int)[j]? = some x) : ∃ c, ns[j]? = some c ∧ x = .int c := by
  rw [List.getElem?_map] at h
  obtain ⟨c, e, z⟩ := Option.map_eq_some_iff.mp h
  exact ⟨c, e, z.symm⟩
theorem vI_get {ns : List Int} {j : Nat} {c : Int} (h : ns[j]? = some c) : (ns.map V.int)[j]? = some (.int c) := by
  rw [List.getElem?_map, h]
  rfl
theorem vI_of : ∀ ys : List V, (∀ y ∈ ys, ∃ c, y = V.int c) → ∃ cs : List Int, ys = cs.map V.int
  | [], _ => ⟨[], rfl⟩
  | y :: r, h => by
    obtain ⟨c, rfl⟩ := h y List.mem_cons_self
    obtain ⟨cs, rfl⟩ := vI_of r fun z hz => h z (List.mem_cons_of_mem _ hz)
    exact ⟨c :: cs, rfl⟩
/-! ### _law_take -/
def sp_law_take : Sp := fun vs H Q _ => ∃ (r : Addr) (n : Int), vs = [.ref r, .int n] ∧ RowAt H r ∧ 0 < n ∧ n < 1073741824 ∧ ∀ H' g, Off r H H' → RowAt H' r → 0 ≤ g → g < n → Q (.int g) H'
theorem ok_law_take (T : TX K mg) : FnOk P w K mg base CX0 1 T.a_law_take T.fd_law_take ["draws", "many"] sp_law_take := by
  refine T.F_law_take.ok sc_law_take (fun vs H Q E h => ?_) (fun cdv A outer s H vs Q E hr h => ?_)
  · obtain ⟨r, n, rfl, _⟩ := h
    rfl
  · obtain ⟨r, n, rfl, hR, n0, n1, q⟩ := h
    refine ⟨_, (pss_cons (ps_if (pt_cmpR (op_eqD hr.units) (pv 0) (pe_lst pa_nil) (nomark _))
        (pss_one (ps_ret pe_int))
        pss_nil)
      (pss_one (ps_ret (pe_op op_mod (pe_bmK K rfl PySem.F.plainAttrs_list PySem.F.slot_list_pop PySem.F.type_list_pop mt_popAt (pv 0) (pa_cons pe_int pa_nil)) (pv 1))))), ?_⟩
    obtain ⟨ns, er, hl⟩ := hR
    refine ⟨.ref r, rfl, by show 0 ≤ sizeLine; decide, fun e ne => ?_⟩
    have s1 := same_new (o := .lst []) ne
    have R1 : RowAt (L2.upd H e (.lst [])) r := ⟨ns, s1 _ _ er, hl⟩
    have er1 := s1 _ _ er
    refine ⟨.list (ns.map PyData.int), .list [], .lst (.inl (.inl er1)) (dpI ns), .lst (.inl (.inl upd_same)) .nil, shapedI ns, by decide +kernel, _, rfl, ?_⟩
    rw [eqv_nilI]
    generalize L2.upd H e (.lst []) = H1 at s1 R1 er1
    refine ite2 (fun _ => q _ 0 (Off.of s1) R1 (Int.le_refl _) n0) (fun z => ?_)
    have hne : ns ≠ [] := fun h => z (decide_eq_true h)
    match ns, hne, er1, hl with
    | v :: t, _, er1, hl =>
      refine ⟨.ref r, rfl, .inl ⟨rfl, _, .inl (.inl er1)⟩, r, _, 0, 0, .int v, rfl, rfl, er1, by decide, by decide, seqIx (by decide) (by rw [List.length_map, List.length_cons]; omega), rfl, .int n, rfl, v, n, rfl, rfl, n0, ?_⟩
      exact q _ _ ((Off.of s1).trans Off.put) ⟨t, upd_same, by rw [List.length_cons] at hl; omega⟩ (Int.emod_nonneg _ (by omega)) (Int.emod_lt_of_pos _ n0)
end
end LH

namespace LH
open PySem PySem.Spec PyProof.Rows L2
/-! ### machines in the heap -/
abbrev vi (ns : List Nat) : List V := ns.map fun (n : Nat) => V.int (n : Int)
theorem vi_snoc (ys : List Nat) (c : Nat) : vi ys ++ [V.int (c : Int)] = vi (ys ++ [c]) := by
  show _ = List.map _ (ys ++ [c])
  rw [List.map_append]
  rfl
abbrev vr (as : List Addr) : List V := as.map V.ref
theorem vr_snoc (ys : List Addr) (c : Addr) : vr ys ++ [V.ref c] = vr (ys ++ [c]) := by
  show _ = List.map _ (ys ++ [c])
  rw [List.map_append]
  rfl
structure Mach where
  z : Str
  rows : List (List Nat)
  ends : List Nat
structure Mach.Ok (M : Mach) : Prop where
  let_ : IsLet M.z
  many : 1 ≤ M.rows.length
  row : ∀ r ∈ M.rows, r.length = M.z.length ∧ ∀ t ∈ r, t < M.rows.length
  endl : ∀ e ∈ M.ends, e < M.rows.length
  rise : M.ends.Pairwise (· < ·)
def RowsAt (H : Hp) (as : List Addr) (rows : List (List Nat)) : Prop := as.length = rows.length ∧ ∀ (i : Nat) (a : Addr) (row : List Nat), as[i]? = some a → rows[i]? = some row → H a = some (.tup (vi row))
def MachAt (H : Hp) (p : Addr) (M : Mach) : Prop := ∃ t e as, H p = some (.tup [.str M.z, .ref t, .ref e]) ∧ H t = some (.tup (vr as)) ∧ RowsAt H as M.rows ∧ H e = some (.tup (vi M.ends))
/-- tuples stand -/
def Tups (H H' : Hp) : Prop := ∀ b xs, H b = some (.tup xs) → H' b = some (.tup xs)
theorem Tups.refl (H : Hp) : Tups H H := fun _ _ h => h
theorem Tups.trans {H H1 H2 : Hp} (a : Tups H H1) (b : Tups H1 H2) : Tups H H2 := fun c o h => b c o (a c o h)
theorem Tups.same {H H' : Hp} (a : Same H H') : Tups H H' := fun c _ h => a c _ h
theorem Tups.off {r : Addr} {H H' : Hp} (R : RowAt H r) (a : Off r H H') : Tups H H' := fun c _ h => a c _ (R.neT h) h
theorem Tups.new {p : Addr} {H : Hp} {o : HO} (h : H p = none) : Tups H (upd H p o) := Tups.same (same_new h)
theorem Tups.lst {p : Addr} {H : Hp} {xs : List V} {o : HO} (h : H p = some (.lst xs)) : Tups H (upd H p o) := fun c ys e => by
  rw [upd_ne (ne_of e h (by intro z; cases z))]
  exact e
theorem RowsAt.mono {H H' : Hp} {as : List Addr} {rows : List (List Nat)} (t : Tups H H') (h : RowsAt H as rows) : RowsAt H' as rows := ⟨h.1, fun i a row x y => t _ _ (h.2 i a row x y)⟩
theorem MachAt.mono {H H' : Hp} {p : Addr} {M : Mach} (t : Tups H H') (h : MachAt H p M) : MachAt H' p M := by
  obtain ⟨a, b, c, h1, h2, h3, h4⟩ := h
  exact ⟨a, b, c, t _ _ h1, t _ _ h2, h3.mono t, t _ _ h4⟩
theorem RowsAt.snoc {H : Hp} {as : List Addr} {rows : List (List Nat)} {a : Addr} {row : List Nat} (h : RowsAt H as rows) (ha : H a = some (.tup (vi row))) : RowsAt H (as ++ [a]) (rows ++ [row]) := by
  refine ⟨by rw [List.length_append, List.length_append, h.1]; rfl, fun i b r x y => ?_⟩
  by_cases hi : i < as.length
  · rw [List.getElem?_append_left hi] at x
    rw [List.getElem?_append_left (by rw [← h.1]; exact hi)] at y
    exact h.2 i b r x y
  · rw [List.getElem?_append_right (by omega)] at x
    rw [List.getElem?_append_right (by rw [← h.1]; omega), ← h.1] at y
    have e : i - as.length = 0 := by
      cases q : i - as.length with
      | zero => rfl
      | succ k =>
        rw [q] at x
        simp at x
    rw [e] at x y
    cases x
    cases y
    exact ha
theorem mem_snoc {α : Type} {p : α → Prop} {xs : List α} {x : α} (h : ∀ y ∈ xs, p y) (hx : p x) : ∀ y ∈ xs ++ [x], p y := fun y hy => by
  rcases List.mem_append.mp hy with q | q
  · exact h y q
  · rw [List.mem_singleton.mp q]
    exact hx
section
variable {P : Program} {w : World} {K : PySem.W.Frag} {mg : Str → Option Value} {base : Heap}
end
end LH

namespace LH
open PySem PySem.Spec PyProof.Rows L2
/-! ### what a machine has -/
def Mach.step (M : Mach) (s c : Nat) : Nat := (M.rows.getD s []).getD (M.z.cps.toList.idxOf c) 0
def Mach.run (M : Mach) (cs : List Nat) : Nat := cs.foldl M.step 0
def Mach.has (M : Mach) (cs : List Nat) : Bool := decide (M.run cs ∈ M.ends)
theorem inV_vi (n : Nat) : ∀ ns : List Nat, inV (.int (n : Int)) (vi ns) = decide (n ∈ ns)
  | [] => rfl
  | a :: r => by
    show (((a : Int) == (n : Int)) || inV (.int (n : Int)) (vi r)) = _
    rw [inV_vi n r]
    by_cases e : a = n
    · subst e
      simp
    · have e1 : ((a : Int) == (n : Int)) = false := beq_eq_false_iff_ne.mpr (by omega)
      have e2 : ¬ n = a := fun q => e q.symm
      rw [e1]
      simp [e2]
theorem flat_vi : ∀ ns : List Nat, (vi ns).all flatV = true
  | [] => rfl
  | _ :: r => flat_vi r
theorem idx_lt {z : Str} {c : Nat} (h : c ∈ z.cps.toList) : z.cps.toList.idxOf c < z.length := by
  have := List.idxOf_lt_length_iff.mpr h
  rw [Array.length_toList] at this
  exact this
theorem Mach.Ok.row_at {M : Mach} (k : M.Ok) {s : Nat} (h : s < M.rows.length) : ∃ row, M.rows[s]? = some row ∧ M.rows.getD s [] = row ∧ row.length = M.z.length ∧ ∀ t ∈ row, t < M.rows.length := by
  refine ⟨M.rows[s], List.getElem?_eq_getElem h, ?_, k.row _ (List.getElem_mem h)⟩
  rw [List.getD_eq_getElem?_getD, List.getElem?_eq_getElem h]
  rfl
theorem Mach.Ok.step_at {M : Mach} (k : M.Ok) {s c : Nat} (h : s < M.rows.length) (hc : c ∈ M.z.cps.toList) : ∃ row, M.rows[s]? = some row ∧ row[M.z.cps.toList.idxOf c]? = some (M.step s c) ∧ M.step s c < M.rows.length := by
  obtain ⟨row, e, g, l, t⟩ := k.row_at h
  have hi : M.z.cps.toList.idxOf c < row.length := by
    rw [l]
    exact idx_lt hc
  have es : M.step s c = row[M.z.cps.toList.idxOf c] := by
    unfold Mach.step
    rw [g, List.getD_eq_getElem?_getD, List.getElem?_eq_getElem hi]
    rfl
  refine ⟨row, e, ?_, ?_⟩
  · rw [es, List.getElem?_eq_getElem hi]
  · rw [es]
    exact t _ (List.getElem_mem hi)
theorem Mach.Ok.run_lt {M : Mach} (k : M.Ok) : ∀ (cs : List Nat) (s : Nat), s < M.rows.length → (∀ c ∈ cs, c ∈ M.z.cps.toList) → cs.foldl M.step s < M.rows.length
  | [], _, h, _ => h
  | c :: r, s, h, hc => by
    obtain ⟨_, _, _, q⟩ := k.step_at h (hc c (List.mem_cons_self ..))
    exact Mach.Ok.run_lt k r _ q fun d hd => hc d (List.mem_cons_of_mem _ hd)
theorem run_snoc (M : Mach) {cs : List Nat} {i c : Nat} (h : cs[i]? = some c) : M.run (cs.take (i + 1)) = M.step (M.run (cs.take i)) c := by
  rw [List.take_add_one, h]
  unfold Mach.run
  rw [List.foldl_append]
  rfl
theorem RowsAt.get {H : Hp} {as : List Addr} {rows : List (List Nat)} {s : Nat} {row : List Nat} (h : RowsAt H as rows) (e : rows[s]? = some row) : ∃ a, as[s]? = some a ∧ (vr as)[s]? = some (.ref a) ∧ H a = some (.tup (vi row)) := by
  have hs : s < as.length := by
    rw [h.1]
    exact (List.getElem?_eq_some_iff.mp e).1
  refine ⟨as[s], List.getElem?_eq_getElem hs, ?_, h.2 s _ _ (List.getElem?_eq_getElem hs) e⟩
  rw [List.getElem?_map, List.getElem?_eq_getElem hs]
  rfl
end LH

namespace LH
open PySem PySem.Spec PyProof.Rows L2
/-! ### name = {k: v for ..}; walks of pairs by a K of their own -/
abbrev InBlk (X : Cx) (scope : Scope) (J : Cx → Prop) : Prop := ∀ (s : Shared) (H : Hp) (C : Addr) (cl : List (Str × Addr)) (fp : List Addr), J (X.blk s H scope (compEnvC scope cl C X.env) fp)
section
variable {X : Cx}
theorem ps_setDc {i : Nat} {y : Str} {py dp sp : Pos} {kx vx tg it : Expr} {ifs : List Expr} {scope : Scope} {own : List (Str × Nat)} {wi : TI} {g : TG} {tt : TT} {tk tv : TE} (calm : X.calm = true) (nd : X.N.Nodup) (hy : X.N[i]? = some y) (loc : X.env.scope.names.lookup y = some .local)
    (sw : swapsWith (.DictComp kx vx [⟨tg, it, ifs, 0⟩] scope dp) (some (.Name y py)) sp.line X.env = pure true) (hi : PI X tg it wi) (ok : BlkOk X.N X.env.scope scope own) (hg : InBlk X scope fun Y => PG Y tg g) (ht : InBlk X scope fun Y => PTs Y ifs tt) (hk : InBlk X scope fun Y => PE Y kx tk) (hv : InBlk X scope fun Y => PE Y vx tv)
    (hf : ∀ x, foldedSetIterable it X.env x = pure x := by intro _; rfl) : PS X (.Assign [.Name y py] (.DictComp kx vx [⟨tg, it, ifs, 0⟩] scope dp) sp) (tAsg (tDc wi g tt tk tv (own.map (·.2))) (gName i)) := by
  refine ⟨fun pins s σ H D I q0 => ?_⟩
  have q1 : tDc wi g tt tk tv (own.map (·.2)) σ H (fun x H1 => gName i x σ H1 D.nx) := q0
  rw [exec_Assign_Name_used _ _ _ _ sw]
  refine wpAny_bind (wpAny_standAt (wpAny_bind ?_))
  show wpAny _ X.A (do let _ ← comprehension (.DictComp kx vx [⟨tg, it, ifs, 0⟩] scope dp) scope X.env (firstIterPos [⟨tg, it, ifs, 0⟩] dp) newDict false (eval it X.env) (some (assign (.Name y py) X.env))) _ _ s
  refine wpAny_bind (thn (dc_core (Qf := fun _ s' => SP X pins D .next s') calm nd I hi ok hg ht hk hv hf q1 fun L C s' m H' I' q hn f => ?_) fun _ s' z => wpAny_pure (wpAny_pure z))
  show wpAny _ _ (assign (.Name y py) X.env (V.ref L |> fun _ => Value.ref L)) _ _ _
  refine wpAny_assign_Name (store_ok2 (v := V.ref L) I' nd hy (.inl loc) rfl (fun s2 I2 st => ?_) (.inr loc))
  obtain ⟨a, sb, ha⟩ := st
  have na : C ≠ a := by rcases ha with z | z; (· rw [z]; exact f.2.1); (· exact fun e => f.2.2.2.2.1 y a z e.symm)
  exact ⟨m, hn.sameBut sb na, fun h3 sb3 => ⟨_, H', I2.turned (t' := s2.toks) (fun b o hb e => (sb3.2 b hb).trans e) f.1 f.2.1 f.2.2.2.1 f.2.2.2.2.1 f.2.2.2.2.2, q⟩⟩
theorem sw_trueD {kx vx : Expr} {gs : List Comprehension} {scope : Scope} {pos py : Pos} {y : Str} {l : Nat} {env : Env} (hk : env.scope.kind = .function) (hy : env.scope.names.lookup y = some .local) (hl : (py.line == pos.line) = true) (ha : (scope.names.any fun (n, k) => n == y && (k == .local || k == .cell)) = false) :
    swapsWith (.DictComp kx vx gs scope pos) (some (.Name y py)) l env = pure true := by
  have b : env.blockKind = .function := by rw [Env.blockKind, hk]; rfl
  have k : env.kindOf y = some .local := hy
  unfold swapsWith
  simp only [b, k, ha, Expr.pos, hl]
  rfl
variable (K : PySem.W.Frag) (hK : X.K = K)
include hK
theorem pi_enumK {e : Expr} {ta : TA} {p pos tp : Pos} {elts : List Expr} {kk : Nat} (hg : Gl X "enumerate") (hm : X.mg "enumerate" = none) (ha : PA X [e] ta) (hs : starEach [e] X.env = [(false, eval e X.env)] := by rfl) : PI X (.Tuple elts kk tp) (.Call (.Name "enumerate" p) [e] [] pos) (iEnum K ta) := by subst hK; exact pi_enum hg hm ha hs
end
/-! ### walks of dicts of whole numbers -/
abbrev dk (g : List Nat) : List (Key × V) := g.map fun (s : Nat) => (Sum.inl (s : Int), V.bl true)
theorem valV_dk (s : Nat) : ∀ g : List Nat, valV (dk g) (Sum.inl (s : Int) : Key) = if s ∈ g then some (.bl true) else none
  | [] => rfl
  | a :: r => by
    show valV ((Sum.inl (a : Int), V.bl true) :: dk r) (Sum.inl (s : Int) : Key) = _
    by_cases e : a = s
    · subst e
      rw [valV_pos rfl, if_pos (List.mem_cons_self ..)]
    · rw [valV_neg (fun q => e (by have := Sum.inl.inj q; omega)), valV_dk s r]
      have : (s ∈ a :: r) ↔ s ∈ r := ⟨fun h => by
        rcases List.mem_cons.mp h with z | z
        · exact absurd z.symm e
        · exact z, fun h => List.mem_cons_of_mem _ h⟩
      by_cases h : s ∈ r
      · rw [if_pos h, if_pos (this.mpr h)]
      · rw [if_neg h, if_neg (fun z => h (this.mp z))]
theorem putK_dk {s : Nat} {g : List Nat} (h : s ∉ g) : putK (dk g) (Sum.inl (s : Int) : Key) (.bl true) = dk (g ++ [s]) := by
  unfold putK
  rw [valV_any, valV_dk, if_neg h, if_neg (by decide)]
  show _ = List.map _ (g ++ [s])
  rw [List.map_append]
  rfl
theorem putK_dk_in {s : Nat} {g : List Nat} (h : s ∈ g) : putK (dk g) (Sum.inl (s : Int) : Key) (.bl true) = dk g := by
  unfold putK
  rw [valV_any, valV_dk, if_pos h, if_pos (by decide)]
  show List.map _ (List.map _ g) = List.map _ g
  rw [List.map_map]
  refine List.map_congr_left fun a _ => ?_
  show (if (Sum.inl (a : Int) : Key) = Sum.inl (s : Int) then ((Sum.inl (a : Int) : Key), V.bl true) else (Sum.inl (a : Int), V.bl true)) = _
  split <;> rfl
theorem dropK_dk (s : Nat) (g : List Nat) : dropK (dk g) (Sum.inl (s : Int) : Key) = dk (g.filter fun a => decide (a ≠ s)) := by
  unfold dropK
  show List.filter _ (List.map _ g) = List.map _ (g.filter _)
  rw [List.filter_map]
  congr 1
  refine List.filter_congr fun a _ => ?_
  show decide ((Sum.inl (a : Int) : Key) ≠ Sum.inl (s : Int)) = decide (a ≠ s)
  by_cases e : a = s
  · subst e
    simp
  · have h2 : ¬ ((Sum.inl (a : Int) : Key) = Sum.inl (s : Int)) := fun q => e (by have := Sum.inl.inj q; omega)
    simp only [ne_eq, h2, e, not_false_eq_true, decide_true]
theorem keys_dk (g : List Nat) : (dk g).map (fun kv => kV kv.1) = vi g := by
  show List.map _ (List.map _ g) = _
  rw [List.map_map]
  rfl
theorem dk_get {g : List Nat} {i : Nat} {k : Key} {v : V} (h : (dk g)[i]? = some (k, v)) : ∃ s, g[i]? = some s ∧ k = Sum.inl (s : Int) ∧ v = .bl true := by
  rw [List.getElem?_map] at h
  cases e : g[i]? with
  | none =>
    rw [e] at h
    cases h
  | some s =>
    rw [e] at h
    cases h
    exact ⟨s, rfl, rfl, rfl⟩
/-- a dict comprehension over anything that walks: Pv by the turn and the heap (the new dict at D within) -/
theorem dc_it {J : It} {n : Nat} {G : Hp → Prop} {Y : Nat → Hp → V → Hp → Prop} (w : Walk J n G Y) {g : TG} {tt : TT} {tk tv : TE} {vs : List Nat} {σ : L2.St} {H1 : Hp} {D : Addr} {Qd : Hp → Prop} (Pv : Nat → Hp → Prop) (p0 : Pv 0 (upd H1 D (.dK []))) (pG : ∀ i H, i ≤ n → Pv i H → G H)
    (turn : ∀ i x H H', i < n → Pv i H → Y i H x H' → g x (wipe σ vs) H' fun σ2 H2 => wipe σ2 vs = wipe σ vs ∧ tt σ2 H2 fun b H3 => if b = true then tk σ2 H3 fun y H4 => tv σ2 H4 fun z H5 => ∃ kvs k, y = kV k ∧ H5 D = some (.dK kvs) ∧ kvs.length < sizeLine ∧ Pv (i + 1) (upd H5 D (.dK (putK kvs k z))) else Pv (i + 1) H3) (last : ∀ H, Pv n H → Qd H) :
    ∃ W : Nat → Nat → Hp → Prop, (∃ m, W 0 m (upd H1 D (.dK []))) ∧ ∀ i m H, W i m H → (J.stop i H ∧ Qd H) ∨ (J.go i H ∧ ∃ Nx : Hp → Prop, (∀ H', Nx H' → ∃ m', m' < m ∧ W (i + 1) m' H') ∧ ∀ x H', J.yld i H x H' → g x (wipe σ vs) H' fun σ2 H2 => wipe σ2 vs = wipe σ vs ∧ tt σ2 H2 fun b H3 =>
      if b = true then tk σ2 H3 fun y H4 => tv σ2 H4 fun z H5 => ∃ kvs k, y = kV k ∧ H5 D = some (.dK kvs) ∧ kvs.length < sizeLine ∧ Nx (upd H5 D (.dK (putK kvs k z))) else Nx H3) := by
  refine ⟨fun i m H => m + i = n ∧ Pv i H, ⟨n, rfl, p0⟩, fun i m H z => ?_⟩
  obtain ⟨e, p⟩ := z
  have q := pG i H (by omega) p
  cases m with
  | zero =>
    have e' : i = n := by omega
    subst e'
    exact Or.inl ⟨w.stops H q, last H p⟩
  | succ m => exact Or.inr ⟨w.goes i H (by omega) q, Pv (i + 1), fun H' p' => ⟨m, Nat.lt_succ_self m, by omega, p'⟩, fun x H' y => turn i x H H' (by omega) p (w.yields i H x H' (by omega) q y)⟩
/-! ### counting -/
theorem len_le_of_sub {α : Type} [DecidableEq α] : ∀ {xs ys : List α}, xs.Nodup → (∀ x ∈ xs, x ∈ ys) → xs.length ≤ ys.length
  | [], _, _, _ => Nat.zero_le _
  | x :: xs, ys, nd, h => by
    have hx := h x (List.mem_cons_self ..)
    have nd' := List.nodup_cons.mp nd
    have ih := len_le_of_sub (xs := xs) (ys := ys.erase x) nd'.2 fun y hy => by
      have hne : y ≠ x := fun e => nd'.1 (e ▸ hy)
      exact (List.mem_erase_of_ne hne).mpr (h y (List.mem_cons_of_mem _ hy))
    rw [List.length_erase_of_mem hx] at ih
    have := List.length_pos_of_mem hx
    show xs.length + 1 ≤ ys.length
    omega
theorem all_of_len {xs ys : List Nat} (nx : xs.Nodup) (h : ∀ x ∈ xs, x ∈ ys) (l : ys.length ≤ xs.length) : ∀ y ∈ ys, y ∈ xs := fun y hy => by
  by_cases q : y ∈ xs
  · exact q
  · have := len_le_of_sub (xs := y :: xs) (ys := ys) (List.nodup_cons.mpr ⟨q, nx⟩) fun z hz => by
      rcases List.mem_cons.mp hz with rfl | hz
      · exact hy
      · exact h z hz
    have : xs.length + 1 ≤ ys.length := this
    omega
end LH

namespace LH
open PySem PySem.Spec PyProof.Rows L2
theorem take_snoc {α : Type} {xs : List α} {i : Nat} {x : α} (h : xs[i]? = some x) : xs.take (i + 1) = xs.take i ++ [x] := by
  rw [List.take_add_one, h]
  rfl
theorem ixN_nat {n i : Nat} (h : i < n) : ixN n (i : Int) = some i := by
  unfold ixN
  simp
  omega
end LH

namespace LH
open PySem PySem.Spec PyProof.Rows L2
/-! ### patterns: items, words of items -/
structure Itm where
  s : List Nat
  m : Nat
deriving DecidableEq
inductive Mt : List Itm → List Nat → Prop
  | nil : Mt [] []
  | one {s r c w} : c ∈ s → Mt r w → Mt (⟨s, 0⟩ :: r) (c :: w)
  | skip {s r w} : Mt r w → Mt (⟨s, 1⟩ :: r) w
  | star {s r c w} : c ∈ s → Mt (⟨s, 1⟩ :: r) w → Mt (⟨s, 1⟩ :: r) (c :: w)
  | plus {s r c w} : c ∈ s → Mt (⟨s, 1⟩ :: r) w → Mt (⟨s, 2⟩ :: r) (c :: w)
/-- what is left when the item has just read -/
def restI (i : Itm) (r : List Itm) : List Itm := if i.m = 0 then r else ⟨i.s, 1⟩ :: r
def starI (i : Itm) : Bool := i.m == 1
theorem mt_nil : ∀ {its : List Itm}, (∀ i ∈ its, i.m ≤ 2) → (Mt its [] ↔ ∀ i ∈ its, i.m = 1)
  | [], _ => ⟨fun _ _ h => (nomatch h), fun _ => .nil⟩
  | ⟨s, m⟩ :: r, h => by
    have ih := mt_nil (its := r) fun i hi => h i (List.mem_cons_of_mem _ hi)
    constructor
    · intro q i hi
      cases q with
      | skip q =>
        rcases List.mem_cons.mp hi with rfl | hi
        · rfl
        · exact ih.mp q i hi
    · intro q
      have e : m = 1 := q _ List.mem_cons_self
      subst e
      exact .skip (ih.mpr fun i hi => q i (List.mem_cons_of_mem _ hi))
theorem mt_cons : ∀ {its : List Itm} {c : Nat} {w : List Nat}, (∀ i ∈ its, i.m ≤ 2) → (Mt its (c :: w) ↔ ∃ (k : Nat) (i : Itm), its[k]? = some i ∧ (∀ j ∈ its.take k, j.m = 1) ∧ c ∈ i.s ∧ Mt (restI i (its.drop (k + 1))) w)
  | [], c, w, _ => ⟨fun h => (nomatch h), fun ⟨k, i, h, _⟩ => by simp at h⟩
  | ⟨s, m⟩ :: r, c, w, h => by
    have ih := mt_cons (its := r) (c := c) (w := w) fun i hi => h i (List.mem_cons_of_mem _ hi)
    have hm : m ≤ 2 := h _ List.mem_cons_self
    constructor
    · intro q
      cases q with
      | one hc q => exact ⟨0, _, rfl, fun _ h => (nomatch h), hc, q⟩
      | skip q =>
        obtain ⟨k, i, h1, h2, h3, h4⟩ := ih.mp q
        refine ⟨k + 1, i, h1, fun j hj => ?_, h3, h4⟩
        rw [List.take_succ_cons] at hj
        rcases List.mem_cons.mp hj with rfl | hj
        · rfl
        · exact h2 j hj
      | star hc q => exact ⟨0, _, rfl, fun _ h => (nomatch h), hc, q⟩
      | plus hc q => exact ⟨0, _, rfl, fun _ h => (nomatch h), hc, q⟩
    · rintro ⟨k, i, h1, h2, h3, h4⟩
      cases k with
      | zero =>
        cases h1
        unfold restI at h4
        match m, hm, h4 with
        | 0, _, h4 => exact .one h3 h4
        | 1, _, h4 => exact .star h3 h4
        | 2, _, h4 => exact .plus h3 h4
      | succ k =>
        rw [List.take_succ_cons] at h2
        have e : m = 1 := h2 _ List.mem_cons_self
        subst e
        exact .skip (ih.mpr ⟨k, i, h1, fun j hj => h2 j (List.mem_cons_of_mem _ hj), h3, h4⟩)
/-! ### places: signs, and whether they stay -/
abbrev Plc := List Nat × Bool
inductive Mp : List Plc → List Nat → Prop
  | stop {r} : Mp (([], false) :: r) []
  | skip {s r w} : Mp r w → Mp ((s, true) :: r) w
  | go {s r c w} : c ∈ s → Mp r w → Mp ((s, false) :: r) (c :: w)
  | stay {s r c w} : c ∈ s → Mp ((s, true) :: r) w → Mp ((s, true) :: r) (c :: w)
def plI (i : Itm) : List Plc := (if i.m = 1 then [] else [(i.s, false)]) ++ (if i.m = 0 then [] else [(i.s, true)])
def plB (br : List Itm) : List Plc := br.flatMap plI ++ [([], false)]
def plA (brs : List (List Itm)) : List Plc := brs.flatMap plB
def stI (brs : List (List Itm)) : List Nat := (List.range brs.length).map fun j => (plA (brs.take j)).length
theorem plI_0 (s : List Nat) : plI ⟨s, 0⟩ = [(s, false)] := rfl
theorem plI_1 (s : List Nat) : plI ⟨s, 1⟩ = [(s, true)] := rfl
theorem plI_2 (s : List Nat) : plI ⟨s, 2⟩ = [(s, false), (s, true)] := rfl
theorem mp_of_mt {rest : List Plc} {its : List Itm} {w : List Nat} (h : Mt its w) : Mp (its.flatMap plI ++ ([], false) :: rest) w := by
  induction h with
  | nil => exact .stop
  | one hc _ ih => exact .go hc ih
  | skip _ ih => exact .skip ih
  | star hc _ ih => exact .stay hc ih
  | plus hc _ ih => exact .go hc ih
theorem mt_of_mp {rest : List Plc} : ∀ (n : Nat) {its : List Itm} {w : List Nat}, its.length + w.length ≤ n → (∀ i ∈ its, i.m ≤ 2 ∧ i.s ≠ []) → Mp (its.flatMap plI ++ ([], false) :: rest) w → Mt its w
  | n, [], w, _, _, h => by
    cases h with
    | stop => exact .nil
    | go hc _ => exact nomatch hc
  | 0, i :: r, w, hn, _, _ => by simp at hn
  | n + 1, ⟨s, m⟩ :: r, w, hn, hm, h => by
    have hn : r.length + 1 + w.length ≤ n + 1 := hn
    have h2 : m ≤ 2 := (hm _ List.mem_cons_self).1
    have h3 : s ≠ [] := (hm _ List.mem_cons_self).2
    have hr : ∀ i ∈ r, i.m ≤ 2 ∧ i.s ≠ [] := fun i hi => hm i (List.mem_cons_of_mem _ hi)
    match m, h2, h with
    | 0, _, h =>
      have h : Mp ((s, false) :: (r.flatMap plI ++ ([], false) :: rest)) w := h
      generalize hq : (r.flatMap plI ++ ([], false) :: rest) = q at h
      cases h with
      | stop => exact absurd rfl h3
      | go hc h =>
        subst hq
        exact .one hc (mt_of_mp n (by simp at hn ⊢; omega) hr h)
    | 1, _, h =>
      have h : Mp ((s, true) :: (r.flatMap plI ++ ([], false) :: rest)) w := h
      generalize hq : (r.flatMap plI ++ ([], false) :: rest) = q at h
      cases h with
      | skip h =>
        subst hq
        exact .skip (mt_of_mp n (by omega) hr h)
      | stay hc h =>
        subst hq
        refine .star hc (mt_of_mp n (its := ⟨s, 1⟩ :: r) (by simp at hn ⊢; omega) (fun i hi => ?_) h)
        rcases List.mem_cons.mp hi with rfl | hi
        · exact ⟨by show 1 ≤ 2; decide, h3⟩
        · exact hr i hi
    | 2, _, h =>
      have h : Mp ((s, false) :: (s, true) :: (r.flatMap plI ++ ([], false) :: rest)) w := h
      generalize hq : (r.flatMap plI ++ ([], false) :: rest) = q at h
      cases h with
      | stop => exact absurd rfl h3
      | go hc h =>
        subst hq
        refine .plus hc (mt_of_mp n (its := ⟨s, 1⟩ :: r) (by simp at hn ⊢; omega) (fun i hi => ?_) h)
        rcases List.mem_cons.mp hi with rfl | hi
        · exact ⟨by show 1 ≤ 2; decide, h3⟩
        · exact hr i hi
end LH

namespace LH
open PySem PySem.Spec PyProof.Rows L2
/-! ### places held: links, closures, words -/
def sgP (ps : List Plc) (q : Nat) : List Nat := (ps.getD q ([], false)).1
def stP (ps : List Plc) (q : Nat) : Bool := (ps.getD q ([], false)).2
/-- q is come to from t by places that stay -/
def Lnk (ps : List Plc) (t q : Nat) : Prop := t ≤ q ∧ ∀ r, r < q → t ≤ r → stP ps r = true
instance (ps : List Plc) (t q : Nat) : Decidable (Lnk ps t q) := inferInstanceAs (Decidable (t ≤ q ∧ ∀ r, r < q → t ≤ r → stP ps r = true))
theorem Lnk.refl (ps : List Plc) (t : Nat) : Lnk ps t t := ⟨Nat.le_refl _, fun r h1 h2 => by omega⟩
theorem Lnk.step {ps : List Plc} {t q : Nat} (h : Lnk ps t q) (s : stP ps q = true) : Lnk ps t (q + 1) := by
  refine ⟨by have := h.1; omega, fun r h1 h2 => ?_⟩
  by_cases e : r = q
  · rw [e]; exact s
  · exact h.2 r (by omega) h2
def cloK (ps : List Plc) (T : List Nat) : List Nat := (List.range ps.length).filter fun q => decide (∃ t ∈ T, Lnk ps t q)
theorem mem_cloK {ps : List Plc} {T : List Nat} {q : Nat} : q ∈ cloK ps T ↔ q < ps.length ∧ ∃ t ∈ T, Lnk ps t q := by
  unfold cloK
  rw [List.mem_filter, List.mem_range, decide_eq_true_iff]
def tgtP (ps : List Plc) (q : Nat) : Nat := if stP ps q = true then q else q + 1
def nxtK (ps : List Plc) (ks : List Nat) (c : Nat) : List Nat := (ks.filter fun q => decide (c ∈ sgP ps q)).map (tgtP ps)
structure PlOk (ps : List Plc) : Prop where
  last : ∀ q, stP ps q = true → q + 1 < ps.length
  next : ∀ q, sgP ps q ≠ [] → q + 1 < ps.length
  stop : ∀ q, sgP ps q = [] → stP ps q = false
def Clo (ps : List Plc) (ks : List Nat) : Prop := ∀ q ∈ ks, q < ps.length ∧ (stP ps q = true → q + 1 ∈ ks)
theorem clo_cloK {ps : List Plc} (ok : PlOk ps) (T : List Nat) : Clo ps (cloK ps T) := fun q h => by
  obtain ⟨h1, t, h2, h3⟩ := mem_cloK.mp h
  exact ⟨h1, fun s => mem_cloK.mpr ⟨ok.last q s, t, h2, h3.step s⟩⟩
theorem drop_P {ps : List Plc} {q : Nat} (h : q < ps.length) : ps.drop q = (sgP ps q, stP ps q) :: ps.drop (q + 1) := by
  rw [List.drop_eq_getElem_cons h]
  unfold sgP stP
  rw [List.getD_eq_getElem?_getD, List.getElem?_eq_getElem h]
  rfl
theorem mp_nilK {ps : List Plc} (ok : PlOk ps) {ks : List Nat} (cl : Clo ps ks) : (∃ q ∈ ks, Mp (ps.drop q) []) ↔ ∃ q ∈ ks, sgP ps q = [] := by
  constructor
  · rintro ⟨q, hq, h⟩
    generalize hn : ps.length - q = n
    induction n generalizing q with
    | zero =>
      have := (cl q hq).1
      omega
    | succ n ih =>
      obtain ⟨l, s⟩ := cl q hq
      rw [drop_P l] at h
      generalize hs : sgP ps q = a at h
      generalize ht : stP ps q = b at h
      cases h with
      | stop => exact ⟨q, hq, hs⟩
      | skip h => exact ih (q + 1) (s ht) h (by omega)
  · rintro ⟨q, hq, h⟩
    refine ⟨q, hq, ?_⟩
    rw [drop_P (cl q hq).1, h, ok.stop q h]
    exact .stop
theorem mp_link {ps : List Plc} {t q : Nat} {w : List Nat} (h : Lnk ps t q) (l : q < ps.length) (m : Mp (ps.drop q) w) : Mp (ps.drop t) w := by
  obtain ⟨h1, h2⟩ := h
  obtain ⟨d, rfl⟩ := Nat.exists_eq_add_of_le h1
  induction d with
  | zero => exact m
  | succ d ih =>
    have s := h2 (t + d) (by omega) (by omega)
    refine ih (by omega) ?_ (by omega) (fun r a b => h2 r (by omega) b)
    rw [drop_P (by omega), s]
    exact .skip m
theorem mp_stepK {ps : List Plc} (ok : PlOk ps) {ks : List Nat} (cl : Clo ps ks) {c : Nat} {w : List Nat} : (∃ q ∈ ks, Mp (ps.drop q) (c :: w)) ↔ ∃ q ∈ cloK ps (nxtK ps ks c), Mp (ps.drop q) w := by
  constructor
  · rintro ⟨q, hq, h⟩
    generalize hn : ps.length - q = n
    induction n generalizing q with
    | zero =>
      have := (cl q hq).1
      omega
    | succ n ih =>
      obtain ⟨l, s⟩ := cl q hq
      rw [drop_P l] at h
      have key : c ∈ sgP ps q → Mp (ps.drop (tgtP ps q)) w → ∃ q ∈ cloK ps (nxtK ps ks c), Mp (ps.drop q) w := fun hc hm => by
        have hl : tgtP ps q < ps.length := by
          have := ok.next q (fun z => by rw [z] at hc; exact nomatch hc)
          unfold tgtP
          split <;> omega
        exact ⟨_, mem_cloK.mpr ⟨hl, _, List.mem_map.mpr ⟨q, List.mem_filter.mpr ⟨hq, decide_eq_true hc⟩, rfl⟩, Lnk.refl _ _⟩, hm⟩
      generalize hs : sgP ps q = a at h key
      generalize ht : stP ps q = b at h
      cases h with
      | skip h => exact ih (q + 1) (s ht) h (by omega)
      | go hc h =>
        refine key hc ?_
        unfold tgtP
        rw [if_neg (by rw [ht]; decide)]
        exact h
      | stay hc h =>
        refine key hc ?_
        unfold tgtP
        rw [if_pos ht, drop_P l, hs, ht]
        exact h
  · rintro ⟨q, hq, h⟩
    obtain ⟨l, t, ht, lk⟩ := mem_cloK.mp hq
    obtain ⟨p, hp, rfl⟩ := List.mem_map.mp ht
    obtain ⟨hp, hc⟩ := List.mem_filter.mp hp
    have hc := of_decide_eq_true hc
    have m := mp_link lk l h
    refine ⟨p, hp, ?_⟩
    unfold tgtP at m
    have e := drop_P (cl p hp).1
    cases ht : stP ps p with
    | true =>
      rw [if_pos ht, e, ht] at m
      rw [e, ht]
      exact .stay hc m
    | false =>
      rw [if_neg (by rw [ht]; decide)] at m
      rw [e, ht]
      exact .go hc m
/-- what is held behind a word -/
def heldK (ps : List Plc) (ks : List Nat) (w : List Nat) : List Nat := w.foldl (fun ks c => cloK ps (nxtK ps ks c)) ks
theorem mp_held {ps : List Plc} (ok : PlOk ps) : ∀ (w ks : List Nat), Clo ps ks → ((∃ q ∈ ks, Mp (ps.drop q) w) ↔ ∃ q ∈ heldK ps ks w, sgP ps q = [])
  | [], ks, cl => mp_nilK ok cl
  | c :: w, ks, cl => (mp_stepK ok cl).trans (mp_held ok w _ (clo_cloK ok _))
/-! ### few sets of places -/
def tgB : List Itm → Nat → List Nat
  | [], _ => []
  | i :: r, n => (if i.m = 1 then n else n + 1) :: tgB r (n + (plI i).length)
def tgA : List (List Itm) → Nat → List Nat
  | [], _ => []
  | b :: r, n => tgB b n ++ tgA r (n + (plB b).length)
def manyI (brs : List (List Itm)) : Nat := (brs.map List.length).sum
theorem tgB_len : ∀ (b : List Itm) (n : Nat), (tgB b n).length = b.length
  | [], _ => rfl
  | i :: r, n => congrArg (· + 1) (tgB_len r _)
theorem tgA_len : ∀ (brs : List (List Itm)) (n : Nat), (tgA brs n).length = manyI brs
  | [], _ => rfl
  | b :: r, n => by
    unfold tgA
    rw [List.length_append, tgB_len, tgA_len r]
    rfl
def ItOk (i : Itm) : Prop := i.m ≤ 2 ∧ i.s ≠ []
theorem tgB_mem : ∀ (b : List Itm), (∀ i ∈ b, ItOk i) → ∀ (n q : Nat) (s : List Nat) (t : Bool), (b.flatMap plI)[q]? = some (s, t) → s ≠ [] ∧ (if t = true then n + q else n + q + 1) ∈ tgB b n
  | [], _, n, q, s, t, h => by simp at h
  | ⟨s0, m⟩ :: r, ok, n, q, s, t, h => by
    have ih := tgB_mem r (fun i hi => ok i (List.mem_cons_of_mem _ hi))
    obtain ⟨h2, h3⟩ := ok _ List.mem_cons_self
    rw [List.flatMap_cons] at h
    unfold tgB
    have two : m = 0 ∨ m = 1 ∨ m = 2 := by
      have : m ≤ 2 := h2
      omega
    rcases two with rfl | rfl | rfl
    · rw [plI_0] at h
      match q, h with
      | 0, h =>
        cases h
        exact ⟨h3, List.mem_cons_self⟩
      | q + 1, h =>
        obtain ⟨a, b⟩ := ih (n + 1) q s t h
        refine ⟨a, List.mem_cons_of_mem _ ?_⟩
        show _ ∈ tgB r (n + 1)
        rw [show n + (q + 1) = n + 1 + q by omega]
        exact b
    · rw [plI_1] at h
      match q, h with
      | 0, h =>
        cases h
        exact ⟨h3, List.mem_cons_self⟩
      | q + 1, h =>
        obtain ⟨a, b⟩ := ih (n + 1) q s t h
        refine ⟨a, List.mem_cons_of_mem _ ?_⟩
        show _ ∈ tgB r (n + 1)
        rw [show n + (q + 1) = n + 1 + q by omega]
        exact b
    · rw [plI_2] at h
      match q, h with
      | 0, h =>
        cases h
        exact ⟨h3, List.mem_cons_self⟩
      | 1, h =>
        cases h
        exact ⟨h3, List.mem_cons_self⟩
      | q + 2, h =>
        obtain ⟨a, b⟩ := ih (n + 2) q s t h
        refine ⟨a, List.mem_cons_of_mem _ ?_⟩
        show _ ∈ tgB r (n + 2)
        rw [show n + (q + 2) = n + 2 + q by omega]
        exact b
theorem plB_len (b : List Itm) : (plB b).length = (b.flatMap plI).length + 1 := by
  unfold plB
  rw [List.length_append]
  rfl
/-- a place of the plan: the end of a branch, or an item's -/
theorem plA_at : ∀ (brs : List (List Itm)), (∀ b ∈ brs, ∀ i ∈ b, ItOk i) → ∀ (n q : Nat) (s : List Nat) (t : Bool), (plA brs)[q]? = some (s, t) → (s = [] ∧ t = false) ∨ (s ≠ [] ∧ (if t = true then n + q else n + q + 1) ∈ tgA brs n ∧ q + 1 < (plA brs).length)
  | [], _, n, q, s, t, h => by simp [plA] at h
  | b :: r, ok, n, q, s, t, h => by
    have e : plA (b :: r) = plB b ++ plA r := List.flatMap_cons
    rw [e] at h ⊢
    have lb := plB_len b
    by_cases hq : q < (plB b).length
    · rw [List.getElem?_append_left hq] at h
      unfold plB at h
      by_cases hq2 : q < (b.flatMap plI).length
      · rw [List.getElem?_append_left hq2] at h
        obtain ⟨a1, a2⟩ := tgB_mem b (ok b List.mem_cons_self) n q s t h
        refine .inr ⟨a1, ?_, ?_⟩
        · unfold tgA
          exact List.mem_append_left _ a2
        · rw [List.length_append]
          omega
      · have : q = (b.flatMap plI).length := by omega
        subst this
        rw [List.getElem?_append_right (Nat.le_refl _), Nat.sub_self] at h
        cases h
        exact .inl ⟨rfl, rfl⟩
    · rw [List.getElem?_append_right (by omega)] at h
      rcases plA_at r (fun b hb => ok b (List.mem_cons_of_mem _ hb)) (n + (plB b).length) _ s t h with z | ⟨z1, z2, z3⟩
      · exact .inl z
      · refine .inr ⟨z1, ?_, ?_⟩
        · unfold tgA
          refine List.mem_append_right _ ?_
          rw [show n + (plB b).length + (q - (plB b).length) = n + q by omega] at z2
          exact z2
        · rw [List.length_append]
          omega
theorem plA_get {ps : List Plc} {q : Nat} (h : q < ps.length) : ps[q]? = some (sgP ps q, stP ps q) := by
  unfold sgP stP
  rw [List.getD_eq_getElem?_getD, List.getElem?_eq_getElem h]
  rfl
theorem sgP_out {ps : List Plc} {q : Nat} (h : ¬ q < ps.length) : sgP ps q = [] ∧ stP ps q = false := by
  unfold sgP stP
  rw [List.getD_eq_getElem?_getD, List.getElem?_eq_none (by omega)]
  exact ⟨rfl, rfl⟩
theorem plOk_A {brs : List (List Itm)} (ok : ∀ b ∈ brs, ∀ i ∈ b, ItOk i) : PlOk (plA brs) := by
  refine ⟨fun q h => ?_, fun q h => ?_, fun q h => ?_⟩
  · by_cases hq : q < (plA brs).length
    · rcases plA_at brs ok 0 q _ _ (plA_get hq) with ⟨_, z⟩ | ⟨_, _, z⟩
      · rw [z] at h; exact nomatch h
      · exact z
    · rw [(sgP_out hq).2] at h; exact nomatch h
  · by_cases hq : q < (plA brs).length
    · rcases plA_at brs ok 0 q _ _ (plA_get hq) with ⟨z, _⟩ | ⟨_, _, z⟩
      · exact absurd z h
      · exact z
    · exact absurd (sgP_out hq).1 h
  · by_cases hq : q < (plA brs).length
    · rcases plA_at brs ok 0 q _ _ (plA_get hq) with ⟨_, z⟩ | ⟨z, _, _⟩
      · exact z
      · exact absurd h z
    · exact (sgP_out hq).2
theorem tgtP_mem {brs : List (List Itm)} (ok : ∀ b ∈ brs, ∀ i ∈ b, ItOk i) {q : Nat} (h : sgP (plA brs) q ≠ []) : tgtP (plA brs) q ∈ tgA brs 0 := by
  by_cases hq : q < (plA brs).length
  · rcases plA_at brs ok 0 q _ _ (plA_get hq) with ⟨z, _⟩ | ⟨_, z, _⟩
    · exact absurd z h
    · rw [Nat.zero_add] at z
      exact z
  · exact absurd (sgP_out hq).1 h
def subs {α : Type} : List α → List (List α)
  | [] => [[]]
  | a :: r => subs r ++ (subs r).map (a :: ·)
theorem subs_len {α : Type} : ∀ l : List α, (subs l).length = 2 ^ l.length
  | [] => rfl
  | a :: r => by
    show (subs r ++ (subs r).map (a :: ·)).length = _
    rw [List.length_append, List.length_map, subs_len r, List.length_cons, Nat.pow_succ]
    omega
theorem subs_filter {α : Type} (p : α → Bool) : ∀ l : List α, l.filter p ∈ subs l
  | [] => List.mem_singleton.mpr rfl
  | a :: r => by
    show _ ∈ subs r ++ (subs r).map (a :: ·)
    by_cases h : p a = true
    · rw [List.filter_cons_of_pos h]
      exact List.mem_append_right _ (List.mem_map.mpr ⟨_, subs_filter p r, rfl⟩)
    · rw [List.filter_cons_of_neg h]
      exact List.mem_append_left _ (subs_filter p r)
theorem cloK_congr {ps : List Plc} {T T' : List Nat} (h : ∀ t, t ∈ T ↔ t ∈ T') : cloK ps T = cloK ps T' := by
  unfold cloK
  refine List.filter_congr fun q _ => decide_eq_decide.mpr ?_
  constructor
  · rintro ⟨t, a, b⟩; exact ⟨t, (h t).mp a, b⟩
  · rintro ⟨t, a, b⟩; exact ⟨t, (h t).mpr a, b⟩
/-- all that can be held -/
def allK (brs : List (List Itm)) : List (List Nat) := cloK (plA brs) (stI brs) :: (subs (tgA brs 0)).map (cloK (plA brs))
theorem allK_len {brs : List (List Itm)} (h : manyI brs ≤ 8) : (allK brs).length ≤ 257 := by
  unfold allK
  rw [List.length_cons, List.length_map, subs_len, tgA_len]
  have : 2 ^ manyI brs ≤ 2 ^ 8 := Nat.pow_le_pow_right (by decide) h
  have e : 2 ^ 8 = 256 := rfl
  omega
theorem allK_next {brs : List (List Itm)} (ok : ∀ b ∈ brs, ∀ i ∈ b, ItOk i) (ks : List Nat) (c : Nat) : cloK (plA brs) (nxtK (plA brs) ks c) ∈ allK brs := by
  refine List.mem_cons_of_mem _ (List.mem_map.mpr ⟨(tgA brs 0).filter fun t => decide (t ∈ nxtK (plA brs) ks c), subs_filter _ _, cloK_congr fun t => ?_⟩)
  rw [List.mem_filter, decide_eq_true_iff]
  refine ⟨fun h => h.2, fun h => ⟨?_, h⟩⟩
  obtain ⟨q, hq, rfl⟩ := List.mem_map.mp h
  have hc := of_decide_eq_true (List.mem_filter.mp hq).2
  exact tgtP_mem ok fun z => by rw [z] at hc; exact nomatch hc
theorem allK_clo {brs : List (List Itm)} (ok : ∀ b ∈ brs, ∀ i ∈ b, ItOk i) {ks : List Nat} (h : ks ∈ allK brs) : Clo (plA brs) ks := by
  rcases List.mem_cons.mp h with rfl | h
  · exact clo_cloK (plOk_A ok) _
  · obtain ⟨T, _, rfl⟩ := List.mem_map.mp h
    exact clo_cloK (plOk_A ok) _
/-! ### words of the branches -/
theorem stI_at {brs : List (List Itm)} {q : Nat} : q ∈ stI brs ↔ ∃ j b, brs[j]? = some b ∧ q = (plA (brs.take j)).length := by
  unfold stI
  rw [List.mem_map]
  constructor
  · rintro ⟨j, hj, rfl⟩
    rw [List.mem_range] at hj
    exact ⟨j, _, List.getElem?_eq_getElem hj, rfl⟩
  · rintro ⟨j, b, h, rfl⟩
    exact ⟨j, List.mem_range.mpr (List.getElem?_eq_some_iff.mp h).1, rfl⟩
theorem plA_drop {brs : List (List Itm)} {j : Nat} {b : List Itm} (h : brs[j]? = some b) : (plA brs).drop (plA (brs.take j)).length = b.flatMap plI ++ ([], false) :: plA (brs.drop (j + 1)) := by
  obtain ⟨hj, e⟩ := List.getElem?_eq_some_iff.mp h
  have : plA brs = plA (brs.take j) ++ plA (brs.drop j) := by
    unfold plA
    rw [← List.flatMap_append, List.take_append_drop]
  rw [this, List.drop_left, List.drop_eq_getElem_cons hj, e]
  show List.flatMap plB (b :: brs.drop (j + 1)) = _
  rw [List.flatMap_cons]
  unfold plB
  rw [List.append_assoc]
  rfl
theorem plA_in {brs : List (List Itm)} {j : Nat} {b : List Itm} (h : brs[j]? = some b) : (plA (brs.take j)).length < (plA brs).length := by
  have := congrArg List.length (plA_drop h)
  rw [List.length_drop, List.length_append, List.length_cons] at this
  omega
/-- the words of the plan are those of its branches -/
theorem words_A {brs : List (List Itm)} (ok : ∀ b ∈ brs, ∀ i ∈ b, ItOk i) (w : List Nat) : (∃ q ∈ heldK (plA brs) (cloK (plA brs) (stI brs)) w, sgP (plA brs) q = []) ↔ ∃ b ∈ brs, Mt b w := by
  rw [← mp_held (plOk_A ok) w _ (clo_cloK (plOk_A ok) _)]
  constructor
  · rintro ⟨q, hq, m⟩
    obtain ⟨l, t, ht, lk⟩ := mem_cloK.mp hq
    have m := mp_link lk l m
    obtain ⟨j, b, h, rfl⟩ := stI_at.mp ht
    rw [plA_drop h] at m
    have hb := List.mem_of_getElem? h
    exact ⟨b, hb, mt_of_mp _ (Nat.le_refl _) (fun i hi => ok b hb i hi) m⟩
  · rintro ⟨b, hb, m⟩
    obtain ⟨j, h⟩ := List.mem_iff_getElem?.mp hb
    refine ⟨_, mem_cloK.mpr ⟨plA_in h, _, stI_at.mpr ⟨j, b, h, rfl⟩, Lnk.refl _ _⟩, ?_⟩
    rw [plA_drop h]
    exact mp_of_mt m
/-! ### each once -/
def ddp {α : Type} [DecidableEq α] : List α → List α
  | [] => []
  | a :: r => if a ∈ r then ddp r else a :: ddp r
theorem mem_ddp {α : Type} [DecidableEq α] {x : α} : ∀ {l : List α}, x ∈ ddp l ↔ x ∈ l
  | [] => Iff.rfl
  | a :: r => by
    unfold ddp
    have ih := mem_ddp (x := x) (l := r)
    by_cases h : a ∈ r
    · rw [if_pos h, ih, List.mem_cons]
      exact ⟨.inr, fun z => z.elim (fun e => e ▸ h) id⟩
    · rw [if_neg h, List.mem_cons, List.mem_cons, ih]
theorem ddp_nd {α : Type} [DecidableEq α] : ∀ l : List α, (ddp l).Nodup
  | [] => List.nodup_nil
  | a :: r => by
    unfold ddp
    by_cases h : a ∈ r
    · rw [if_pos h]
      exact ddp_nd r
    · rw [if_neg h]
      exact List.nodup_cons.mpr ⟨fun z => h (mem_ddp.mp z), ddp_nd r⟩
theorem ddp_len {α : Type} [DecidableEq α] : ∀ l : List α, (ddp l).length ≤ l.length
  | [] => Nat.le_refl _
  | a :: r => by
    unfold ddp
    have := ddp_len r
    by_cases h : a ∈ r
    · rw [if_pos h, List.length_cons]
      omega
    · rw [if_neg h, List.length_cons, List.length_cons]
      omega
/-! ### states by number -/
def usK (brs : List (List Itm)) : List (List Nat) := ddp (allK brs)
def uK (brs : List (List Itm)) (s : Nat) : List Nat := (usK brs).getD s []
def rK (cs : List Nat) (brs : List (List Itm)) (s : Nat) : List Nat := cs.map fun c => (usK brs).idxOf (cloK (plA brs) (nxtK (plA brs) (uK brs s) c))
def finK (brs : List (List Itm)) (s : Nat) : Bool := decide (∃ q ∈ uK brs s, sgP (plA brs) q = [])
theorem usK_len {brs : List (List Itm)} (h : manyI brs ≤ 8) : (usK brs).length ≤ 257 := Nat.le_trans (ddp_len _) (allK_len h)
theorem uK_mem {brs : List (List Itm)} {s : Nat} (h : s < (usK brs).length) : uK brs s ∈ allK brs := by
  refine mem_ddp.mp (List.mem_of_getElem? (i := s) ?_)
  unfold uK
  rw [List.getD_eq_getElem?_getD]
  show (usK brs)[s]? = _
  rw [List.getElem?_eq_getElem h]
  rfl
theorem uK_idx {brs : List (List Itm)} {ks : List Nat} (h : ks ∈ allK brs) : (usK brs).idxOf ks < (usK brs).length ∧ uK brs ((usK brs).idxOf ks) = ks := by
  have l := List.idxOf_lt_length_iff.mpr (show ks ∈ usK brs from mem_ddp.mpr h)
  refine ⟨l, ?_⟩
  unfold uK
  rw [List.getD_eq_getElem?_getD, List.getElem?_eq_getElem l, List.getElem_idxOf]
  rfl
theorem uK_inj {brs : List (List Itm)} {s t : Nat} (hs : s < (usK brs).length) (ht : t < (usK brs).length) (e : uK brs s = uK brs t) : s = t := by
  unfold uK at e
  rw [List.getD_eq_getElem?_getD, List.getD_eq_getElem?_getD, List.getElem?_eq_getElem hs, List.getElem?_eq_getElem ht] at e
  exact (List.getElem_inj (ddp_nd (allK brs))).mp e
theorem rK_run {cs : List Nat} {brs : List (List Itm)} (ok : ∀ b ∈ brs, ∀ i ∈ b, ItOk i) : ∀ (w : List Nat) (s : Nat), s < (usK brs).length → (∀ i ∈ w, i < cs.length) → uK brs (w.foldl (fun s c => (rK cs brs s).getD c 0) s) = heldK (plA brs) (uK brs s) (w.map fun i => cs.getD i 0)
  | [], s, _, _ => rfl
  | i :: w, s, hs, hw => by
    have hi := hw i List.mem_cons_self
    have st : (rK cs brs s).getD i 0 = (usK brs).idxOf (cloK (plA brs) (nxtK (plA brs) (uK brs s) (cs.getD i 0))) := by
      unfold rK
      rw [List.getD_eq_getElem?_getD, List.getElem?_map, List.getElem?_eq_getElem hi, List.getD_eq_getElem?_getD, List.getElem?_eq_getElem hi]
      rfl
    obtain ⟨a, b⟩ := uK_idx (allK_next ok (uK brs s) (cs.getD i 0))
    rw [List.foldl_cons, st, rK_run ok w _ a (fun j hj => hw j (List.mem_cons_of_mem _ hj)), b]
    rfl
end LH

namespace LH
open PySem PySem.Spec PyProof.Rows L2 NdefX LamX
/-! ### texts of items -/
abbrev tJ (cs : List Nat) : Str := ⟨cs.toArray⟩
theorem tJ_len (cs : List Nat) : (tJ cs).length = cs.length := List.size_toArray
theorem tJ_list (v : Str) : tJ v.cps.toList = v := by
  obtain ⟨a⟩ := v
  show (⟨a.toList.toArray⟩ : Str) = ⟨a⟩
  rw [Array.toArray_toList]
theorem tJ_inj {a b : List Nat} (h : tJ a = tJ b) : a = b := congrArg (fun z : Str => z.cps.toList) h
theorem tJ_app (a b : List Nat) : tJ a ++ tJ b = tJ (a ++ b) := by
  show (⟨a.toArray ++ b.toArray⟩ : Str) = ⟨(a ++ b).toArray⟩
  congr 1
  apply Array.ext'
  simp
theorem tJ_eq {a b : List Nat} : decide (V.str (tJ a) = V.str (tJ b)) = decide (a = b) := by
  by_cases h : a = b
  · rw [h]; simp
  · rw [decide_eq_false h, decide_eq_false fun e => h (tJ_inj (V.str.inj e))]
theorem vi_castJ (c : List Nat) : vi c = (c.map fun n : Nat => (n : Int)).map V.int := by
  rw [List.map_map]
  rfl
def mkI (m : Nat) : List Nat := if m = 0 then [] else if m = 1 then [42] else [43]
/-- the head of an item: a point, a letter, letters in brackets -/
inductive Hd (z : List Nat) : List Nat → List Nat → Prop
  | dot : z ≠ [] → Hd z z [46]
  | one {c} : c ∈ z → Hd z [c] [c]
  | brk {s} : s ≠ [] → s.Pairwise (· < ·) → (∀ c ∈ s, c ∈ z) → Hd z s (91 :: s ++ [93])
def ItT (z : List Nat) (i : Itm) (t : List Nat) : Prop := i.m ≤ 2 ∧ ∃ h, Hd z i.s h ∧ t = h ++ mkI i.m
inductive BrT (z : List Nat) : List Itm → List Nat → Prop
  | nil : BrT z [] []
  | cons {i r t u} : ItT z i t → BrT z r u → BrT z (i :: r) (t ++ u)
/-- small letters, of which there are few -/
def Zl (z : List Nat) : Prop := z.length ≤ 5 ∧ ∀ c ∈ z, 97 ≤ c ∧ c ≤ 122
theorem Hd.few {z s h : List Nat} (q : Hd z s h) : s ≠ [] := by
  cases q with
  | dot h => exact h
  | one => exact fun h => nomatch h
  | brk h => exact h
theorem Hd.sub {z s h : List Nat} (q : Hd z s h) : ∀ c ∈ s, c ∈ z := by
  cases q with
  | dot => exact fun _ h => h
  | one h => exact fun d hd => by rw [List.mem_singleton.mp hd]; exact h
  | brk _ _ h => exact h
theorem ItT.ok {z : List Nat} {i : Itm} {t : List Nat} (q : ItT z i t) : ItOk i := by
  obtain ⟨h, hd, q, _⟩ := q
  exact ⟨h, q.few⟩
theorem BrT.ok {z : List Nat} {b : List Itm} {t : List Nat} (q : BrT z b t) : ∀ i ∈ b, ItOk i := by
  induction q with
  | nil => exact fun _ h => nomatch h
  | cons h _ ih =>
    intro i hi
    rcases List.mem_cons.mp hi with rfl | hi
    · exact h.ok
    · exact ih i hi
theorem rise_few {s : List Nat} (h : s.Pairwise (· < ·)) (l : ∀ c ∈ s, 97 ≤ c ∧ c ≤ 122) : s.length ≤ 26 := by
  have nd : s.Nodup := h.imp fun x => Nat.ne_of_lt x
  have := len_le_of_sub nd (ys := (List.range 26).map (· + 97)) fun c hc => by
    obtain ⟨a, b⟩ := l c hc
    exact List.mem_map.mpr ⟨c - 97, List.mem_range.mpr (by omega), by omega⟩
  rwa [List.length_map, List.length_range] at this
/-- the signs of heads -/
theorem Hd.first {z s h : List Nat} (zl : Zl z) (q : Hd z s h) : ∃ c r, h = c :: r ∧ c ≠ 42 ∧ c ≠ 43 ∧ h.length ≤ 30 ∧ (∀ d ∈ h, d ≠ 124) := by
  cases q with
  | dot => exact ⟨46, [], rfl, by decide, by decide, by decide, fun d hd => by rw [List.mem_singleton.mp hd]; decide⟩
  | @one c hc =>
    have := zl.2 c hc
    exact ⟨c, [], rfl, by omega, by omega, by show 1 ≤ 30; decide, fun d hd => by rw [List.mem_singleton.mp hd]; omega⟩
  | brk h1 h2 h3 =>
    have := rise_few h2 fun c hc => zl.2 c (h3 c hc)
    refine ⟨91, s ++ [93], rfl, by decide, by decide, ?_, fun d hd => ?_⟩
    · show (s ++ [93]).length + 1 ≤ 30
      rw [List.length_append]
      show s.length + 1 + 1 ≤ 30
      omega
    · rcases List.mem_cons.mp hd with rfl | hd
      · decide
      · rcases List.mem_append.mp hd with hd | hd
        · have := zl.2 d (h3 d hd)
          omega
        · rw [List.mem_singleton.mp hd]; decide
theorem mkI_sign {m : Nat} {c : Nat} (h : c ∈ mkI m) : c = 42 ∨ c = 43 := by
  unfold mkI at h
  split at h
  · exact nomatch h
  · split at h
    · exact .inl (List.mem_singleton.mp h)
    · exact .inr (List.mem_singleton.mp h)
/-- what begins a branch's rest -/
def Fst (t : List Nat) : Prop := ∀ c r, t = c :: r → c ≠ 42 ∧ c ≠ 43
theorem BrT.first {z : List Nat} (zl : Zl z) {b : List Itm} {t : List Nat} (q : BrT z b t) : Fst t := by
  cases q with
  | nil => exact fun _ _ h => nomatch h
  | cons h _ =>
    obtain ⟨_, hd, q, rfl⟩ := h
    obtain ⟨c, r, rfl, h1, h2, _⟩ := q.first zl
    intro c' r' e
    cases e
    exact ⟨h1, h2⟩
theorem BrT.bar {z : List Nat} (zl : Zl z) {b : List Itm} {t : List Nat} (q : BrT z b t) : 124 ∉ t := by
  induction q with
  | nil => exact fun h => nomatch h
  | cons h _ ih =>
    obtain ⟨_, hd, q, rfl⟩ := h
    obtain ⟨_, _, _, _, _, _, h3⟩ := q.first zl
    intro hm
    rcases List.mem_append.mp hm with hm | hm
    · rcases List.mem_append.mp hm with hm | hm
      · exact h3 _ hm rfl
      · rcases mkI_sign hm with h | h <;> exact absurd h (by decide)
    · exact ih hm
theorem BrT.ne {z : List Nat} (zl : Zl z) {b : List Itm} {t : List Nat} (q : BrT z b t) (h : b ≠ []) : t ≠ [] := by
  cases q with
  | nil => exact absurd rfl h
  | cons g _ =>
    obtain ⟨_, hd, q, rfl⟩ := g
    obtain ⟨c, r, rfl, _⟩ := q.first zl
    exact fun h => nomatch h
theorem drop_get {b r : List Nat} {k c : Nat} (h : b.drop k = c :: r) : b[k]? = some c := by
  have := congrArg (fun l => l[0]?) h
  simpa using this
theorem drop_app {b h r : List Nat} {k : Nat} (e : b.drop k = h ++ r) : b.drop (k + h.length) = r := by
  rw [← List.drop_drop, e, List.drop_left]
section
variable {P : Program} {w : World} {K : PySem.W.Frag} {mg : Str → Option Value} {base : Heap}
theorem seven (n : Nat) (h : n ≤ 1000) : n ≤ sizeLine := Nat.le_trans h (by decide)
end
end LH

namespace LH
open PySem PySem.Spec PyProof.Rows L2 NdefX LamX
abbrev vt (n : Nat) : List V := (List.replicate n true).map V.bl
theorem vt_snoc (n : Nat) : vt n ++ [V.bl true] = vt (n + 1) := by
  show _ = List.map V.bl (List.replicate (n + 1) true)
  rw [List.replicate_succ', List.map_append]
  rfl
theorem vt_len (n : Nat) : (vt n).length = n := by
  rw [List.length_map, List.length_replicate]
theorem all_true (n : Nat) : (List.replicate n true).all id = true := by
  rw [List.all_eq_true]
  intro b hb
  rw [(List.mem_replicate.mp hb).2]
  rfl
theorem one_lt {a b : Nat} : ([a] < [b]) ↔ a < b := by
  rw [List.cons_lt_cons_iff]
  constructor
  · rintro (h | ⟨_, h⟩)
    · exact h
    · exact absurd h (by decide)
  · exact .inl
theorem int_ne {a : Int} : (!decide (V.int a = V.int a)) = false := by simp
end LH

namespace LH
open PySem PySem.Spec PyProof.Rows L2 NdefX LamX
theorem s_close : (Str.ofString "]" : Str) = tJ [93] := by decide +kernel
theorem s_none : (Str.ofString "" : Str) = tJ [] := by decide +kernel
theorem find_close {b s r : List Nat} {k : Nat} (hs : ∀ c ∈ s, 97 ≤ c ∧ c ≤ 122) (e : b.drop k = 91 :: s ++ [93] ++ r) : Txt.find3 (tJ b) (tJ [93]) (k : Int) = ((k + 1 + s.length : Nat) : Int) := by
  have lb : (tJ b).length = b.length := tJ_len b
  have at_ : ∀ j, b[k + j]? = (91 :: s ++ [93] ++ r)[j]? := fun j => by rw [← e, List.getElem?_drop]
  have fi : PySem.StrLaws.find3_spec (tJ b) 93 (k : Int) = PySem.StrLaws.find3_spec (tJ b) 93 (k : Int) := rfl
  have fx : fromIndex (tJ b).length (k : Int) = k := by
    unfold fromIndex
    rw [if_neg (by omega)]
    omega
  have gd : ∀ {j c : Nat}, b[k + j]? = some c → (tJ b).cps.getD (k + j) 0 = c ∧ k + j < b.length := fun {j c} h => ⟨by
    show b.toArray.getD (k + j) 0 = c
    rw [Array.getD_eq_getD_getElem?]
    show (b.toArray[k + j]?).getD 0 = c
    rw [List.getElem?_toArray, h]
    rfl, (List.getElem?_eq_some_iff.mp h).1⟩
  have end_ : b[k + (1 + s.length)]? = some 93 := by
    rw [at_, show 91 :: s ++ [93] ++ r = (91 :: s) ++ (93 :: r) by simp, List.getElem?_append_right (by rw [List.length_cons]; omega)]
    rw [show 1 + s.length - (91 :: s).length = 0 by rw [List.length_cons]; omega]
    rfl
  obtain ⟨g1, g2⟩ := gd end_
  have before : ∀ j, j < 1 + s.length → ∃ c, b[k + j]? = some c ∧ c ≠ 93 := fun j hj => by
    rw [at_, show 91 :: s ++ [93] ++ r = (91 :: s) ++ (93 :: r) by simp, List.getElem?_append_left (by rw [List.length_cons]; omega)]
    cases j with
    | zero => exact ⟨91, rfl, by decide⟩
    | succ j =>
      have hj : j < s.length := by omega
      refine ⟨s[j], List.getElem?_eq_getElem hj, ?_⟩
      have := hs _ (List.getElem_mem hj)
      omega
  rcases PySem.StrLaws.find3_spec (tJ b) 93 (k : Int) with ⟨_, h⟩ | ⟨k', h1, h2, h3, h4, h5⟩
  · rw [fx] at h
    exact absurd g1 (h _ (by omega) (by rw [lb]; exact g2))
  · rw [fx] at h2 h5
    show Txt.find3 (tJ b) ⟨#[93]⟩ (k : Int) = _
    rw [h1]
    have a1 : ¬ k' < k + (1 + s.length) := fun z => by
      obtain ⟨d, rfl⟩ := Nat.exists_eq_add_of_le h2
      obtain ⟨c, c1, c2⟩ := before d (by omega)
      rw [(gd c1).1] at h4
      exact c2 h4
    have a2 : ¬ k + (1 + s.length) < k' := fun z => h5 _ (by omega) z g1
    omega
theorem cut_mid (b : List Nat) (x y : Nat) (h : y ≤ b.length) : cutS (tJ b) (some (x : Int)) (some (y : Int)) = tJ ((b.drop x).take (y - x)) := by
  unfold cutS
  rw [tJ_len, HT.sIx_nat, HT.sIx_nat, Nat.min_eq_left h]
  show tJ ((b.drop (min x b.length)).take (y - min x b.length)) = _
  by_cases hx : x ≤ b.length
  · rw [Nat.min_eq_left hx]
  · rw [Nat.min_eq_right (by omega), List.drop_of_length_le (Nat.le_refl _), List.drop_of_length_le (show b.length ≤ x by omega), List.take_nil, List.take_nil]
theorem snoc_at {α β : Type} {as : List α} {bs : List β} (hl : as.length = bs.length) {a : α} {b : β} {R : α → β → Prop} (h : ∀ (i : Nat) (x : α) (y : β), as[i]? = some x → bs[i]? = some y → R x y) (hab : R a b) : ∀ (i : Nat) (x : α) (y : β), (as ++ [a])[i]? = some x → (bs ++ [b])[i]? = some y → R x y := fun i x y e1 e2 => by
  by_cases hi : i < as.length
  · rw [List.getElem?_append_left hi] at e1
    rw [List.getElem?_append_left (by omega)] at e2
    exact h i x y e1 e2
  · have hi2 := (List.getElem?_eq_some_iff.mp e1).1
    rw [List.length_append] at hi2
    have hi2 : i < as.length + 1 := hi2
    obtain rfl : i = as.length := by omega
    rw [List.getElem?_append_right (Nat.le_refl _), Nat.sub_self] at e1
    rw [List.getElem?_append_right (by omega), hl, Nat.sub_self] at e2
    cases e1
    cases e2
    exact hab
theorem fit6 {n : Nat} (h : n ≤ 100000) : n < sizeLine := Nat.lt_of_le_of_lt h (by decide)
/-- a pattern's text -/
def PatT (z : List Nat) (brs : List (List Itm)) (pt : Str) : Prop := ∃ ts : List (List Nat), pt = Txt.join (tJ [124]) (ts.map tJ) ∧ brs.length = ts.length ∧ ∀ (j : Nat) (br : List Itm) (t : List Nat), brs[j]? = some br → ts[j]? = some t → br ≠ [] ∧ BrT z br t ∧ t.length ≤ 1000
theorem PatT.ok {z : List Nat} {brs : List (List Itm)} {pt : Str} (h : PatT z brs pt) : ∀ b ∈ brs, ∀ i ∈ b, ItOk i := by
  obtain ⟨ts, _, hl, ht⟩ := h
  intro b hb i hi
  obtain ⟨j, hj⟩ := List.mem_iff_getElem?.mp hb
  have := (List.getElem?_eq_some_iff.mp hj).1
  exact (ht j b _ hj (List.getElem?_eq_getElem (by omega))).2.1.ok i hi
end LH

namespace LH
open PySem PySem.Spec PyProof.Rows L2
theorem tAdd_nodup {l : List Str} {k : Str} (h : l.Nodup) : (tAdd l k).Nodup := by
  unfold tAdd
  split
  · exact h
  · rename_i q
    exact List.nodup_cons.mpr ⟨q, h⟩
theorem tAll_nodup (xs : List Str) : (tAll xs).Nodup := by
  unfold tAll
  have : ∀ (xs l : List Str), l.Nodup → (xs.foldl tAdd l).Nodup := by
    intro xs
    induction xs with
    | nil => intro l h; exact h
    | cons x r ih => intro l h; exact ih _ (tAdd_nodup h)
  exact this xs [] List.nodup_nil
theorem sum_sg (cs : List Nat) : ((cs.map sg).map (·.length)).sum = cs.length := by
  rw [List.map_map, show ((fun x : Str => x.length) ∘ sg) = fun _ => 1 from rfl, List.map_const', List.sum_replicate_nat]
  omega
/-- signs that are sorted and were put into a set -/
theorem sg_sorted {cs : List Nat} {zs : List Str} (p : zs.Perm (tAll (cs.map sg))) (s : sortedS zs = true) : ∃ ds : List Nat, zs = ds.map sg ∧ ds.Pairwise (· < ·) ∧ (∀ c, c ∈ ds ↔ c ∈ cs) ∧ ds.length ≤ cs.length := by
  have hm : ∀ x, x ∈ zs ↔ x ∈ cs.map sg := fun x => p.mem_iff.trans mem_tAll
  let f : Str → Nat := fun z => z.cps.getD 0 0
  have e : zs = (zs.map f).map sg := by
    rw [List.map_map]
    conv => lhs; rw [← List.map_id zs]
    refine List.map_congr_left fun y hy => ?_
    obtain ⟨c, _, rfl⟩ := List.mem_map.mp ((hm y).mp hy)
    rfl
  refine ⟨zs.map f, e, ?_, fun c => ?_, ?_⟩
  · have nd : zs.Nodup := p.symm.nodup (tAll_nodup _)
    have nd2 : (zs.map f).Nodup := by
      rw [e] at nd
      exact (List.pairwise_map.mp nd).imp fun h e => h (congrArg sg e)
    refine rise_of (sortedS_sg ?_) nd2
    rw [← e]
    exact s
  · have q := hm (sg c)
    constructor
    · intro h
      have : sg c ∈ zs := by
        rw [e]
        exact List.mem_map.mpr ⟨c, h, rfl⟩
      obtain ⟨d, hd, ed⟩ := List.mem_map.mp (q.mp this)
      have : d = c := by
        have := congrArg (fun y : Str => y.cps.getD 0 0) ed
        exact this
      exact this ▸ hd
    · intro h
      have := q.mpr (List.mem_map.mpr ⟨c, h, rfl⟩)
      exact List.mem_map.mpr ⟨sg c, this, rfl⟩
  · rw [List.length_map, p.length_eq]
    have := tAll_len (cs.map sg)
    rw [List.length_map] at this
    exact this
section
variable {P : Program} {w : World} {K : PySem.W.Frag} {mg : Str → Option Value} {base : Heap}
/-! ### _law_letters -/
/-! ### _law_one_of -/
/-! ### _law_some -/
theorem dpAll_str {K : PySem.W.Frag} {H : Hp} : ∀ xs : List Str, DpAll K H (xs.map V.str) (xs.map PyData.str)
  | [] => .nil
  | c :: r => .cons (.str _) (dpAll_str r)
theorem canAll_str : ∀ xs : List Str, (∀ x ∈ xs, PyData.strOk x = true) → PyData.canLayAll0 (xs.map PyData.str) = true
  | [], _ => rfl
  | x :: r, h => by
    have h1 := h x List.mem_cons_self
    have h2 := canAll_str r fun y hy => h y (List.mem_cons_of_mem _ hy)
    simp [PyData.canLayAll0, PyData.canLay0, h1, h2]
theorem depthAll_str : ∀ xs : List Str, PyData.depthAll (xs.map PyData.str) = 0
  | [] => rfl
  | _ :: r => by simp [PyData.depthAll, PyData.depth, depthAll_str r]
theorem shaped_strs (xs : List Str) (h : ∀ x ∈ xs, PyData.strOk x = true) : SeqAt.shaped (.list (xs.map PyData.str)) = true := by
  simp [SeqAt.shaped, PyData.canLay0, PyData.depth, canAll_str xs h, depthAll_str]
theorem strOk_sg {c : Nat} (h : c ≤ 122) : PyData.strOk (sg c) = true := by
  have : c < 0x110000 := by omega
  simp [PyData.strOk, this]
end
end LH

namespace LH
open PySem PySem.Spec PyProof.Rows L2
/-! ### rules -/
structure Grd where
  how : Str
  wh : Str
  sm : List Nat
inductive Rul where
  | one (x y : Nat) (g : Option Grd)
  | two (x y u v : Nat)
  | call (x y : Nat) (im : List Nat)
def GrdAt (H : Hp) (v : V) : Option Grd → Prop
  | none => v = .non
  | some G => ∃ g, v = .ref g ∧ H g = some (.tup [.str G.how, .str G.wh, .str ⟨G.sm.toArray⟩])
def RulAt (H : Hp) (p : Addr) : Rul → Prop
  | .one x y g => ∃ v, H p = some (.tup [.str "one", .str (sg x), .str (sg y), v]) ∧ GrdAt H v g
  | .two x y u v => H p = some (.tup [.str "two", .str (sg x), .str (sg y), .str (sg u), .str (sg v)])
  | .call x y im => H p = some (.tup [.str "call", .str (sg x), .str (sg y), .str ⟨im.toArray⟩])
theorem GrdAt.mono {H H' : Hp} {v : V} {g : Option Grd} (t : Tups H H') (h : GrdAt H v g) : GrdAt H' v g := by
  cases g with
  | none => exact h
  | some G =>
    obtain ⟨g, e, q⟩ := h
    exact ⟨g, e, t _ _ q⟩
theorem RulAt.mono {H H' : Hp} {p : Addr} {R : Rul} (t : Tups H H') (h : RulAt H p R) : RulAt H' p R := by
  cases R with
  | one x y g =>
    obtain ⟨v, e, q⟩ := h
    exact ⟨v, t _ _ e, q.mono t⟩
  | two x y u v => exact t _ _ h
  | call x y im => exact t _ _ h
structure Grd.Ok (G : Grd) (z sh : Str) : Prop where
  how : G.how = "all" ∨ G.how = "some"
  wh : G.wh = "left" ∨ G.wh = "right" ∨ G.wh = "others"
  ring : sh = "ring" → G.wh = "others"
  sm : ∀ c ∈ G.sm, c ∈ z.cps.toList
  one : 1 ≤ G.sm.length ∧ G.sm.length ≤ 100
  rise : G.sm.Pairwise (· < ·)
def Rul.Ok (z sh : Str) : Rul → Prop
  | .one x y g => x ∈ z.cps.toList ∧ y ∈ z.cps.toList ∧ ∀ G, g = some G → G.Ok z sh
  | .two x y u v => x ∈ z.cps.toList ∧ y ∈ z.cps.toList ∧ u ∈ z.cps.toList ∧ v ∈ z.cps.toList
  | .call x y im => x ∈ z.cps.toList ∧ y ∈ z.cps.toList ∧ im.length = z.length ∧ ∀ c ∈ im, c ∈ z.cps.toList
section
variable {P : Program} {w : World} {K : PySem.W.Frag} {mg : Str → Option Value} {base : Heap}
end
end LH

namespace LH
open PySem PySem.Spec PyProof.Rows L2
abbrev tx (cs : List Nat) : Str := ⟨cs.toArray⟩
theorem tx_len (cs : List Nat) : (tx cs).length = cs.length := List.size_toArray
theorem tx_app (a b : List Nat) : tx a ++ tx b = tx (a ++ b) := by
  show (⟨a.toArray ++ b.toArray⟩ : Str) = ⟨(a ++ b).toArray⟩
  congr 1
  apply Array.ext'
  simp
/-! ### words as lists of signs -/
abbrev tv (ws : List (List Nat)) : List V := ws.map fun cs => V.str (tx cs)
theorem tv_str (ws : List (List Nat)) : tv ws = (ws.map tx).map V.str := by
  rw [List.map_map]
  rfl
theorem tv_snoc (ws : List (List Nat)) (cs : List Nat) : tv ws ++ [V.str (tx cs)] = tv (ws ++ [cs]) := by
  show _ = List.map _ (ws ++ [cs])
  rw [List.map_append]
  rfl
theorem cut_lo (cs : List Nat) (i : Nat) : cutS (tx cs) none (some (i : Int)) = tx (cs.take i) := by
  have := cut_to cs i
  unfold cutS
  rw [tx_len]
  exact congrArg tx this
theorem cut_hi (cs : List Nat) (i : Nat) : cutS (tx cs) (some ((i : Int) + 1)) none = tx (cs.drop (i + 1)) := by
  have := cut_from cs (i + 1)
  unfold cutS
  rw [tx_len]
  exact congrArg tx this
theorem tx_set {cs : List Nat} {i : Nat} (h : i < cs.length) (y : Nat) : tx (cs.take i) ++ sg y ++ tx (cs.drop (i + 1)) = tx (cs.set i y) := by
  show tx (cs.take i) ++ tx [y] ++ tx (cs.drop (i + 1)) = _
  rw [tx_app, tx_app, List.set_eq_take_append_cons_drop, if_pos h, List.append_assoc]
  rfl
theorem str_eq {a b : Str} : decide (V.str a = V.str b) = decide (a = b) := by
  by_cases h : a = b
  · rw [h]
    simp
  · rw [decide_eq_false h, decide_eq_false fun e => h (V.str.inj e)]
theorem sg_eq {a b : Nat} : decide (V.str (sg a) = V.str (sg b)) = decide (a = b) := by
  rw [str_eq]
  by_cases h : a = b
  · rw [h]
    simp
  · rw [decide_eq_false h, decide_eq_false fun e => h ?_]
    have := congrArg (fun y : Str => y.cps.getD 0 0) e
    exact this
/-! ### what comes by a rule, without the code that finds it -/
def gSee (G : Grd) (cs : List Nat) (i : Nat) : List Nat := (if G.wh = "right" then [] else cs.take i) ++ (if G.wh = "left" then [] else cs.drop (i + 1))
def gOk (cs : List Nat) (i : Nat) : Option Grd → Bool
  | none => true
  | some G => if G.how = "all" then (gSee G cs i).all (fun c => decide (c ∈ G.sm)) else (gSee G cs i).any (fun c => decide (c ∈ G.sm))
theorem gOk_all {G : Grd} {cs : List Nat} {i : Nat} (h : G.how = "all") : gOk cs i (some G) = (gSee G cs i).all (fun c => decide (c ∈ G.sm)) := if_pos h
theorem gOk_any {G : Grd} {cs : List Nat} {i : Nat} (h : ¬ G.how = "all") : gOk cs i (some G) = (gSee G cs i).any (fun c => decide (c ∈ G.sm)) := if_neg h
def aOne (x y : Nat) (g : Option Grd) (cs : List Nat) (n : Nat) : List (List Nat) := ((List.range n).filter fun i => decide (cs[i]? = some x) && gOk cs i g).map fun i => cs.set i y
def prs (sh : Str) (n : Nat) : List (Nat × Nat) := (List.range (n - 1)).map (fun i => (i, i + 1)) ++ if sh = "ring" ∧ 1 < n then [(n - 1, 0)] else []
def aTwo (x y u v : Nat) (cs : List Nat) (ps : List (Nat × Nat)) : List (List Nat) := (ps.filter fun p => decide (cs[p.1]? = some x) && decide (cs[p.2]? = some y)).map fun p => (cs.set p.1 u).set p.2 v
def imOf (z : Str) (im : List Nat) (c : Nat) : Nat := im.getD (z.cps.toList.idxOf c) 0
def aCall (x y : Nat) (z : Str) (im cs : List Nat) (n : Nat) : List (List Nat) := ((List.range n).filter fun i => decide (cs[i]? = some x)).map fun i => (cs.map (imOf z im)).set i y
def aAll (z sh : Str) (cs : List Nat) : Rul → List (List Nat)
  | .one x y g => aOne x y g cs cs.length
  | .two x y u v => aTwo x y u v cs (prs sh cs.length)
  | .call x y im => aCall x y z im cs cs.length
end LH

namespace LH
open PySem PySem.Spec PyProof.Rows L2
def RulsAt (H : Hp) (ps : List Addr) (rs : List Rul) : Prop := ps.length = rs.length ∧ ∀ (i : Nat) (p : Addr) (R : Rul), ps[i]? = some p → rs[i]? = some R → RulAt H p R
theorem RulsAt.mono {H H' : Hp} {ps : List Addr} {rs : List Rul} (t : Tups H H') (h : RulsAt H ps rs) : RulsAt H' ps rs := ⟨h.1, fun i p R x y => (h.2 i p R x y).mono t⟩
theorem RulsAt.snoc {H : Hp} {ps : List Addr} {rs : List Rul} {p : Addr} {R : Rul} (h : RulsAt H ps rs) (hp : RulAt H p R) : RulsAt H (ps ++ [p]) (rs ++ [R]) := by
  refine ⟨by rw [List.length_append, List.length_append, h.1]; rfl, fun i a b x y => ?_⟩
  by_cases hi : i < ps.length
  · rw [List.getElem?_append_left hi] at x
    rw [List.getElem?_append_left (by rw [← h.1]; exact hi)] at y
    exact h.2 i a b x y
  · rw [List.getElem?_append_right (by omega)] at x
    rw [List.getElem?_append_right (by rw [← h.1]; omega), ← h.1] at y
    have h0 : i - ps.length = 0 := by
      have := (List.getElem?_eq_some_iff.mp x).1
      have e : ([p] : List Addr).length = 1 := rfl
      omega
    rw [h0] at x y
    cases x
    cases y
    exact hp
theorem RulsAt.cons {H : Hp} {ps : List Addr} {rs : List Rul} {p : Addr} {R : Rul} (hp : RulAt H p R) (h : RulsAt H ps rs) : RulsAt H (p :: ps) (R :: rs) := by
  refine ⟨by rw [List.length_cons, List.length_cons, h.1], fun i a b x y => ?_⟩
  cases i with
  | zero =>
    cases x
    cases y
    exact hp
  | succ i => exact h.2 i a b x y
theorem RulsAt.nil {H : Hp} : RulsAt H [] [] := ⟨rfl, fun i p R x => by simp at x⟩
end LH

namespace LH
open PySem PySem.Spec PyProof.Rows L2
/-! ### texts one behind the other, worlds (no more than every law of worlds wants) -/
theorem sl_app (a b : Str) : (a ++ b).length = a.length + b.length := by
  show (a.cps ++ b.cps).size = _
  rw [Array.size_append]
  rfl
theorem st_app (a b : Str) : (a ++ b).cps.toList = a.cps.toList ++ b.cps.toList := by
  show (a.cps ++ b.cps).toList = _
  rw [Array.toList_append]
theorem st_ext {a b : Str} (h : a.cps.toList = b.cps.toList) : a = b := by
  have := congrArg List.toArray h
  exact congrArg Str.mk this
theorem st_empty : Str.empty.cps.toList = [] := rfl
theorem fit {s : Str} (h : s.length ≤ 1000) : s.length ≤ sizeLine := Nat.le_trans h (by decide)
theorem sl_empty : Str.empty.length = 0 := rfl
theorem fit2 {a b : Str} (h : a.length + b.length ≤ 1000) : a.length + b.length ≤ sizeLine := Nat.le_trans h (by decide)
structure Wd where
  z : Str
  sh : Str
  rs : List Rul
  b : Str
  d : Str
/-- a text that is a pattern of few items -/
def PatW (z pt : Str) : Prop := ∃ brs : List (List Itm), brs ≠ [] ∧ manyI brs ≤ 8 ∧ brs.length ≤ 8 ∧ PatT z.cps.toList brs pt ∧ pt.length ≤ 1000
structure Wd.Ok (W : Wd) : Prop where
  let_ : IsLet W.z
  sh : W.sh = "row" ∨ W.sh = "ring"
  many : W.rs.length ≤ 8
  rs : ∀ R ∈ W.rs, R.Ok W.z W.sh
  b : PatW W.z W.b
  d : PatW W.z W.d
def WdAt (H : Hp) (a : Addr) (W : Wd) : Prop := ∃ (r : Addr) (ps : List Addr), H a = some (.tup [.str W.z, .str W.sh, .ref r, .str W.b, .str W.d]) ∧ H r = some (.tup (vr ps)) ∧ ps.length = W.rs.length ∧ ∀ (i : Nat) (p : Addr) (R : Rul), ps[i]? = some p → W.rs[i]? = some R → RulAt H p R
theorem WdAt.mono {H H' : Hp} {a : Addr} {W : Wd} (t : Tups H H') (h : WdAt H a W) : WdAt H' a W := by
  obtain ⟨r, ps, e1, e2, l, q⟩ := h
  exact ⟨r, ps, t _ _ e1, t _ _ e2, l, fun i p R x y => (q i p R x y).mono t⟩
theorem sum_le {l : List Nat} {n : Nat} (h : ∀ x ∈ l, x ≤ n) : l.sum ≤ l.length * n := by
  induction l with
  | nil => simp
  | cons a r ih =>
    have h1 := h a List.mem_cons_self
    have h2 := ih fun x hx => h x (List.mem_cons_of_mem _ hx)
    rw [List.sum_cons, List.length_cons, Nat.succ_mul]
    omega
theorem str_at {zs : List Str} {i : Nat} {x : V} (h : (zs.map V.str)[i]? = some x) : ∃ y, zs[i]? = some y ∧ x = .str y := by
  rw [List.getElem?_map] at h
  cases e : zs[i]? with
  | none =>
    rw [e] at h
    cases h
  | some y =>
    rw [e] at h
    cases h
    exact ⟨y, rfl, rfl⟩
theorem take_len' {α : Type} (i : Nat) (cs : List α) : (cs.take i).length ≤ cs.length := by
  rw [List.length_take]
  omega
end LH

namespace LH
open PySem PySem.Spec PyProof.Rows L2
theorem sl6 : ∀ m : Nat, m ≤ 1000000 → m < sizeLine := fun _ hm => Nat.lt_of_le_of_lt hm (by decide)
section
variable {P : Program} {w : World} {K : PySem.W.Frag} {mg : Str → Option Value} {base : Heap}
/-! ### _law_draws -/
def sp_law_draws (K : PySem.W.Frag) : Sp := fun vs H Q _ => ∃ (a : Addr) (ns : List Int), vs = [.ref a] ∧ SqL K H a (ns.map V.int) ∧ ns.length ≤ 63 ∧ ∀ H' p, Same H H' → H p = none → RowAt H' p → Q (.ref p) H'
theorem ok_law_draws (T : TX K mg) : FnOk P w K mg base CX0 1 T.a_law_draws T.fd_law_draws ["script"] (sp_law_draws K) := by
  refine T.F_law_draws.ok sc_law_draws (fun vs H Q E h => ?_) (fun cdv A outer s H vs Q E hr h => ?_)
  · obtain ⟨a, ns, rfl, _⟩ := h
    rfl
  · obtain ⟨a, ns, rfl, hS, hn, q⟩ := h
    refine ⟨_, (pss_cons (ps_set (i := 1) sc_law_draws.nd rfl (Or.inl rfl) (pe_lst pa_nil))
      (pss_cons (ps_for PassesOwn.never rfl (pi_range1 (by rfl) T.m_range (pa_cons (pe_callB (call_min2 rfl) (by rfl) T.m_min (by decide +kernel) (pa_cons (pe_callB (call_lenK K rfl) (by rfl) T.m_len (by decide +kernel) (pa_cons (pv 0) pa_nil)) (pa_cons pe_int pa_nil))) pa_nil)) (pg_name (i := 2) sc_law_draws.nd rfl (Or.inl rfl))
        (pss_cons (ps_set (i := 3) sc_law_draws.nd rfl (Or.inl rfl) (pe_callB call_abs (by rfl) T.m_abs (by decide +kernel) (pa_cons (pe_ix (ix_listK K rfl) (pv 0) (pv 2) (fun _ _ => rfl)) pa_nil)))
          (pss_one (ps_if (pt_cmpR op_lt (pv 3) (pe_op op_pow pe_int pe_int) (nomark _))
            (pss_cons (ps_set (i := 4) sc_law_draws.nd rfl (Or.inl rfl) (pe_op op_mod (pe_op op_mul (pe_op op_mod (pe_op op_add (pe_op op_add (pv 3) (pe_op op_mul pe_int (pv 2))) pe_int) pe_int) pe_int) pe_int))
              (pss_cons (ps_set (i := 4) sc_law_draws.nd rfl (Or.inl rfl) (pe_op op_mod (pe_op op_mul (pv 4) (pv 4)) pe_int))
              (pss_cons (ps_expr (pe_bmK K rfl PySem.F.plainAttrs_list PySem.F.slot_list_append PySem.F.type_list_append mt_append (pv 1) (pa_cons (pe_op op_mod (pe_op op_fdiv (pv 4) pe_int) pe_int) pa_nil)))
              (pss_cons (ps_expr (pe_bmK K rfl PySem.F.plainAttrs_list PySem.F.slot_list_append PySem.F.type_list_append mt_append (pv 1) (pa_cons (pe_op op_mod (pe_op op_fdiv (pv 4) pe_int) pe_int) pa_nil)))
              (pss_cons (ps_set (i := 4) sc_law_draws.nd rfl (Or.inl rfl) (pe_op op_mod (pe_op op_add (pv 4) (pe_op op_mul pe_int (pe_op op_add (pv 2) pe_int))) pe_int))
              (pss_one (ps_expr (pe_bmK K rfl PySem.F.plainAttrs_list PySem.F.slot_list_append PySem.F.type_list_append mt_append (pv 1) (pa_cons (pe_op op_mod (pe_op op_fdiv (pe_op op_mod (pe_op op_mul (pv 4) (pv 4)) pe_int) pe_int) pe_int) pa_nil)))))))))
            (pss_cons (ps_set (i := 5) sc_law_draws.nd rfl (Or.inl rfl) pe_int)
              (pss_one (ps_while PassesOwn.never (PW.pt (pw_and (pt_cmpR op_ge (pv 3) pe_int (nomark _)) (pw_and1 (pt_cmpR op_lt (pv 5) pe_int (nomark _)))))
                (pss_cons (ps_expr (pe_bmK K rfl PySem.F.plainAttrs_list PySem.F.slot_list_append PySem.F.type_list_append mt_append (pv 1) (pa_cons (pe_op op_mod (pv 3) pe_int) pa_nil)))
                  (pss_cons (ps_set (i := 3) sc_law_draws.nd rfl (Or.inl rfl) (pe_op op_fdiv (pv 3) pe_int))
                  (pss_one (ps_set (i := 5) sc_law_draws.nd rfl (Or.inl rfl) (pe_op op_add (pv 5) pe_int))))))))))))
      (pss_one (ps_ret (pe_slice (sl_listK K rfl) (pv 1) po_none (po_some pe_int)))))), ?_⟩
    have B : ∀ a m : Int, 0 < m → m < 2 ^ 40 → -(2 ^ 64) < a % m ∧ a % m < 2 ^ 64 := fun a m h1 h2 => by
      have g0 := Int.emod_nonneg a (show m ≠ 0 by omega)
      have g1 := Int.emod_lt_of_pos a h1
      omega
    refine ⟨by show 0 ≤ sizeLine; decide, fun D nD => ?_⟩
    have s0 := same_new (o := .lst []) nD
    have e0 : (L2.upd H D (.lst [])) D = some (.lst (([] : List Int).map V.int)) := upd_same
    generalize L2.upd H D (.lst []) = H0 at s0 e0
    refine ⟨.ref a, rfl, a, _, rfl, .inl (s0.seq hS), _, _, rfl, ?_⟩
    rw [List.length_map, if_neg (by omega)]
    refine ⟨(ns.length : Int), rfl, by omega, by omega, ?_⟩
    refine for_range (lo := 0) (n := ((ns.length : Nat) : Int).toNat) (fun i σ H' => Same H H' ∧ ∃ (ds : List Int) (y2 y3 y4 y5 : Option V), σ = [some (.ref a), some (.ref D), y2, y3, y4, y5] ∧ H' D = some (.lst (ds.map V.int)) ∧ ds.length ≤ 60 * i) ⟨s0, [], none, none, none, none, rfl, e0, by simp⟩ (fun i σ H1 hi hW => ?_) (fun σ H1 hW => ?_)
    · obtain ⟨s1, ds, y2, y3, y4, y5, rfl, e1, l1⟩ := hW
      have hi' : i < ns.length := by omega
      have ec := List.getElem?_eq_getElem hi'
      generalize ns[i] = c at ec
      refine ⟨.ref a, rfl, .int (0 + (i : Int)), rfl, a, _, 0 + (i : Int), .int c, rfl, rfl, s1.seq hS, (by rw [Int.zero_add]; exact atI_nat (vI_get ec)), c, rfl, ?_⟩
      generalize (if c < 0 then -c else c) = rest
      refine ⟨.int rest, rfl, 10, 18, rfl, rfl, ⟨by decide, by decide, by decide⟩, _, _, rfl, rfl, _, rfl, ite2 (fun _ => ?_) (fun _ => ?_)⟩
      · refine ⟨.int rest, rfl, .int (0 + (i : Int)), rfl, 7919, _, rfl, rfl, .inl ⟨by decide, by decide⟩, _, _, rfl, rfl, _, _, rfl, rfl, _, 2147483647, rfl, rfl, (by show (0 : Int) < 2147483647; decide), _, 48271, rfl, rfl, .inl (B _ _ (by decide) (by decide)), _, 2147483647, rfl, rfl, (by show (0 : Int) < 2147483647; decide), ?_⟩
        refine ⟨_, rfl, _, rfl, _, _, rfl, rfl, .inl (B _ _ (by decide) (by decide)), _, 2147483629, rfl, rfl, (by show (0 : Int) < 2147483629; decide), ?_⟩
        refine ⟨.ref D, rfl, .inl ⟨rfl, _, .inl (.inl e1)⟩, _, rfl, _, 16, rfl, rfl, ⟨by decide, by decide⟩, _, 1000, rfl, rfl, (by show (0 : Int) < 1000; decide), D, _, _, rfl, rfl, e1, sl6 _ (by rw [List.length_map]; omega), ?_⟩
        refine ⟨.ref D, rfl, .inl ⟨rfl, _, .inl (.inl upd_same)⟩, _, rfl, _, 16000, rfl, rfl, ⟨by decide, by decide⟩, _, 1000, rfl, rfl, (by show (0 : Int) < 1000; decide), D, _, _, rfl, rfl, upd_same, sl6 _ (by rw [List.length_append, List.length_map]; show ds.length + 1 ≤ _; omega), ?_⟩
        refine ⟨_, rfl, .int (0 + (i : Int)), rfl, _, 7, rfl, rfl, 40692, _, rfl, rfl, .inl ⟨by decide, by decide⟩, _, _, rfl, rfl, _, 2147483587, rfl, rfl, (by show (0 : Int) < 2147483587; decide), ?_⟩
        refine ⟨.ref D, rfl, .inl ⟨rfl, _, .inl (.inl upd_same)⟩, _, rfl, _, rfl, _, _, rfl, rfl, .inl (B _ _ (by decide) (by decide)), _, 2147483647, rfl, rfl, (by show (0 : Int) < 2147483647; decide), _, 16, rfl, rfl, ⟨by decide, by decide⟩, _, 1000, rfl, rfl, (by show (0 : Int) < 1000; decide), D, _, _, rfl, rfl, upd_same, sl6 _ (by rw [List.length_append, List.length_append, List.length_map]; show ds.length + 1 + 1 ≤ _; omega), ?_⟩
        refine ⟨same_putN (same_putN (same_putN s1 nD) nD) nD, _, _, _, _, _, rfl, (by rw [upd_same, vI_snoc, vI_snoc, vI_snoc]), ?_⟩
        rw [List.length_append, List.length_append, List.length_append]
        show ds.length + 1 + 1 + 1 ≤ _
        omega
      · refine ⟨fun mz σ H' => Same H H' ∧ ∃ (es : List Int) (r : Int) (m : Nat), mz + m = 60 ∧ σ = [some (.ref a), some (.ref D), some (.int (0 + (i : Int))), some (.int r), y4, some (.int (m : Int))] ∧ H' D = some (.lst (es.map V.int)) ∧ es.length ≤ 60 * i + m, ⟨60, s1, ds, rest, 0, rfl, rfl, e1, by omega⟩, fun mz σ H2 hW => ?_⟩
        obtain ⟨s2, es, r, m, hm, rfl, e2, l2⟩ := hW
        refine ⟨.int r, rfl, r, 1000, rfl, rfl, _, rfl, ?_⟩
        have out : (Same H H2 ∧ ∃ (ds : List Int) (y2 y3 y4' y5 : Option V), [some (V.ref a), some (.ref D), some (.int (0 + (i : Int))), some (.int r), y4, some (.int (m : Int))] = [some (V.ref a), some (.ref D), y2, y3, y4', y5] ∧ H2 D = some (.lst (ds.map V.int)) ∧ ds.length ≤ 60 * (i + 1)) := ⟨s2, es, _, _, _, _, rfl, e2, by omega⟩
        refine ite2 (fun _ => ?_) (fun _ => ?_)
        · refine ⟨.int (m : Int), rfl, _, 60, rfl, rfl, _, rfl, ?_⟩
          by_cases hm60 : m < 60
          · rw [decide_eq_true (show (m : Int) < 60 by omega)]
            refine ⟨fun σ' H' => ∃ m', m' < mz ∧ (Same H H' ∧ ∃ (es : List Int) (r : Int) (m : Nat), m' + m = 60 ∧ σ' = [some (.ref a), some (.ref D), some (.int (0 + (i : Int))), some (.int r), y4, some (.int (m : Int))] ∧ H' D = some (.lst (es.map V.int)) ∧ es.length ≤ 60 * i + m), fun σ' H' h => h, ?_⟩
            refine ⟨.ref D, rfl, .inl ⟨rfl, _, .inl (.inl e2)⟩, .int r, rfl, _, 1000, rfl, rfl, (by show (0 : Int) < 1000; decide), D, _, _, rfl, rfl, e2, sl6 _ (by rw [List.length_map]; omega), ?_⟩
            refine ⟨.int r, rfl, _, 1000, rfl, rfl, ⟨by decide, by decide⟩, .int (m : Int), rfl, _, 1, rfl, rfl, mz - 1, by omega, same_putN s2 nD, _, _, m + 1, by omega, rfl, (by rw [upd_same, vI_snoc]), ?_⟩
            rw [List.length_append]
            show es.length + 1 ≤ _
            omega
          · rw [decide_eq_false (show ¬ (m : Int) < 60 by omega)]
            exact out
        · exact out
    · obtain ⟨s1, ds, y2, y3, y4, y5, rfl, e1, l1⟩ := hW
      refine ⟨.ref D, rfl, 240, rfl, D, _, rfl, .inl (.inl e1), fun p np => ?_⟩
      have fp : H p = none := by
        cases z : H p with
        | none => rfl
        | some o =>
          rw [s1 _ _ z] at np
          cases np
      obtain ⟨es, he, hl⟩ : ∃ es : List Int, cutV (ds.map V.int) none (some 240) = es.map V.int ∧ es.length ≤ 240 := ⟨ds.take (min 240 ds.length), by
        unfold cutV
        rw [HT.sIx_none, show (some (240 : Int)) = some ((240 : Nat) : Int) from rfl, HT.sIx_nat, List.length_map, Nat.sub_zero, List.drop_zero, List.map_take], by
        rw [List.length_take]
        omega⟩
      refine q _ p (same_putN s1 fp) fp ⟨es, ?_, by omega⟩
      rw [upd_same, he]
end
end LH

namespace LH
open PySem PySem.Spec PyProof.Rows L2
/-- what is left to be taken, and what was taken -/
structure Lft (n i : Nat) (ls ys : List Nat) : Prop where
  nd : (ys ++ ls).Nodup
  sm : ∀ c ∈ ys ++ ls, 97 ≤ c ∧ c ≤ 122
  ln : n ≤ ls.length + i
  lm : ls.length ≤ 26
  yl : ys.length = i
theorem Lft.pop {n i : Nat} {ls ys : List Nat} (h : Lft n i ls ys) (k : Nat) (hk : k < ls.length) : Lft n (i + 1) (ls.eraseIdx k) (ys ++ [ls[k]]) := by
  have p : (ys ++ ls).Perm ((ys ++ [ls[k]]) ++ ls.eraseIdx k) := by
    rw [List.append_assoc]
    exact List.Perm.append_left ys (erase_perm ls k hk)
  have hl : (ls.eraseIdx k).length = ls.length - 1 := List.length_eraseIdx_of_lt hk
  refine ⟨p.nodup h.nd, fun c hc => h.sm c (p.mem_iff.mpr hc), ?_, ?_, ?_⟩
  · have := h.ln
    omega
  · have := h.lm
    omega
  · rw [List.length_append, h.yl]
    rfl
theorem az_step : ∀ b : Int, b = 1 ∨ b = 5 → b ≠ 0 ∧ (stepS0 "abcdefghijklmnopqrstuvwxyz" b).length ≤ sizeLine ∧ (b = 1 → (Builtin.Str.strSliceIndices none none b ("abcdefghijklmnopqrstuvwxyz" : Str).length).length = ("abcdefghijklmnopqrstuvwxyz" : Str).length → stepS0 "abcdefghijklmnopqrstuvwxyz" b = "abcdefghijklmnopqrstuvwxyz") ∧ (stepS0 "abcdefghijklmnopqrstuvwxyz" b).length ≤ 26 ∧ ∃ ls, sgns (stepS0 "abcdefghijklmnopqrstuvwxyz" b) = vs_ ls ∧ ls.Nodup ∧ (∀ c ∈ ls, 97 ≤ c ∧ c ≤ 122) ∧ 6 ≤ ls.length ∧ ls.length ≤ 26 := by
  intro b h
  rcases h with rfl | rfl
  · refine ⟨by decide, by decide +kernel, fun _ _ => by decide +kernel, by decide +kernel, (List.range 26).map (97 + ·), by decide +kernel, by decide, fun c hc => mem_az hc, by decide, by decide⟩
  · exact ⟨by decide, by decide +kernel, (fun z => absurd z (by decide)), by decide +kernel, [97, 102, 107, 112, 117, 122], by decide +kernel, by decide, by decide, by decide, by decide⟩
section
variable {P : Program} {w : World} {K : PySem.W.Frag} {mg : Str → Option Value} {base : Heap}
/-! ### _law_letters -/
def sp_law_letters : Sp := fun vs H Q _ => ∃ (r : Addr) (most : Nat), vs = [.ref r, .int (most : Int)] ∧ RowAt H r ∧ 1 ≤ most ∧ most ≤ 5 ∧ ∀ H' z, Off r H H' → RowAt H' r → IsLet z → z.length ≤ most → Q (.str z) H'
theorem two_at {a b : V} {g : Int} (h0 : 0 ≤ g) (h1 : g < 2) : (g = 0 ∧ atI [a, b] g = some a) ∨ (g = 1 ∧ atI [a, b] g = some b) := by
  rcases (show g = 0 ∨ g = 1 by omega) with rfl | rfl
  · exact .inl ⟨rfl, atI_nat (j := 0) rfl⟩
  · exact .inr ⟨rfl, atI_nat (j := 1) rfl⟩
theorem ok_law_letters (T : TX K mg) : FnOk P w K mg base CX0 2 T.a_law_letters T.fd_law_letters ["draws", "most"] sp_law_letters := by
  have G_law_take : FnOk P w K mg base CX0 1 T.a_law_take T.fd_law_take ["draws", "many"] sp_law_take := ok_law_take T
  refine T.F_law_letters.ok sc_law_letters (fun vs H Q E h => ?_) (fun cdv A outer s H vs Q E hr h => ?_)
  · obtain ⟨r, most, rfl, _⟩ := h
    rfl
  · obtain ⟨r, most, rfl, hR, hm1, hm5, q⟩ := h
    refine ⟨_, (pss_cons (ps_set (i := 2) sc_law_letters.nd rfl (Or.inl rfl) (pe_callTy (call_listS rfl) (by rfl) T.m_list (by decide +kernel) (pa_cons (pe_stepS0 pe_str po_none (po_some (pe_ix (ix_listK K rfl) (pe_lst (pa_cons pe_int (pa_cons pe_int pa_nil))) (pe_call G_law_take (hr.mono (by decide)) (by rfl) T.g_law_take T.F_law_take.kp T.b_law_take .nil pass0 (pa_cons (pv 0) (pa_cons pe_int pa_nil))) (fun _ _ => rfl)))) pa_nil)))
      (pss_cons (ps_set (i := 3) sc_law_letters.nd rfl (Or.inl rfl) (pe_op op_add pe_int (pe_call G_law_take (hr.mono (by decide)) (by rfl) T.g_law_take T.F_law_take.kp T.b_law_take .nil pass0 (pa_cons (pv 0) (pa_cons (pv 1) pa_nil)))))
      (pss_cons (ps_set (i := 4) sc_law_letters.nd rfl (Or.inl rfl) (pe_lst pa_nil))
      (pss_cons (ps_for PassesOwn.never rfl (pi_range1 (by rfl) T.m_range (pa_cons (pv 3) pa_nil)) (pg_name (i := 5) sc_law_letters.nd rfl (Or.inl rfl))
        (pss_one (ps_expr (pe_bmK K rfl PySem.F.plainAttrs_list PySem.F.slot_list_append PySem.F.type_list_append mt_append (pv 4) (pa_cons (pe_bmK K rfl PySem.F.plainAttrs_list PySem.F.slot_list_pop PySem.F.type_list_pop mt_popAt (pv 2) (pa_cons (pe_ix (ix_listK K rfl) (pe_lst (pa_cons pe_int (pa_cons (pe_call G_law_take (hr.mono (by decide)) (by rfl) T.g_law_take T.F_law_take.kp T.b_law_take .nil pass0 (pa_cons (pv 0) (pa_cons (pe_callB (call_lenK K rfl) (by rfl) T.m_len (by decide +kernel) (pa_cons (pv 2) pa_nil)) pa_nil))) pa_nil))) (pe_call G_law_take (hr.mono (by decide)) (by rfl) T.g_law_take T.F_law_take.kp T.b_law_take .nil pass0 (pa_cons (pv 0) (pa_cons pe_int pa_nil))) (fun _ _ => rfl)) pa_nil)) pa_nil)))))
      (pss_one (ps_ret (pe_m1 PySem.F.slot_str_join PySem.F.type_str_join (mt_joinK K rfl) pe_str (pe_callB (cr_sortedSK K rfl) (by rfl) T.m_sorted (by decide +kernel) (pa_cons (pv 4) pa_nil))))))))), ?_⟩
    -- some
    refine ⟨by show 2 ≤ sizeLine; decide, fun L nL => ?_⟩
    have rL := hR.ne nL
    have eL : (L2.upd H L (.lst [.int 1, .int 5])) L = some (.lst [.int 1, .int 5]) := upd_same
    have R1 := hR.new (o := .lst [.int 1, .int 5]) nL
    have o1 : Off r H (L2.upd H L (.lst [.int 1, .int 5])) := Off.new nL
    generalize L2.upd H L (.lst [.int 1, .int 5]) = H1 at eL R1 o1
    refine ⟨.ref r, rfl, r, 2, rfl, R1, by decide, by decide, fun H2 g o2 R2 g0 g1 => ?_⟩
    obtain ⟨b, hb, hat⟩ : ∃ b : Int, (b = 1 ∨ b = 5) ∧ atI [V.int 1, V.int 5] g = some (.int b) := by
      rcases two_at (a := V.int 1) (b := V.int 5) g0 g1 with ⟨_, h⟩ | ⟨_, h⟩
      · exact ⟨1, .inl rfl, h⟩
      · exact ⟨5, .inr rfl, h⟩
    obtain ⟨b0, bl, bw, bl26, ls, els, lnd, lsm, l6, l26⟩ := az_step b hb
    refine ⟨L, _, g, .int b, rfl, rfl, .inl (.inl (o2 _ _ rL.symm eL)), hat, b, rfl, _, b, rfl, rfl, rfl, b0, bl, bw, ?_⟩
    refine ⟨_, rfl, Nat.le_trans bl26 (by decide), fun l nl => ?_⟩
    rw [els]
    have nr : l ≠ r := (R2.ne nl).symm
    have fl : H l = none := (o1.trans o2).free nr.symm nl
    have e3 : (L2.upd H2 l (.lst (vs_ ls))) l = some (.lst (vs_ ls)) := upd_same
    have R3 := R2.new (o := .lst (vs_ ls)) nl
    have o3 : Off r H (L2.upd H2 l (.lst (vs_ ls))) := (o1.trans o2).trans (Off.new nl)
    generalize L2.upd H2 l (.lst (vs_ ls)) = H3 at e3 R3 o3
    -- many
    refine ⟨.ref r, rfl, .int (most : Int), rfl, r, (most : Int), rfl, R3, by omega, by omega, fun H4 g o4 R4 g0 g1 => ?_⟩
    obtain ⟨m, rfl⟩ : ∃ m : Nat, g = (m : Int) := ⟨g.toNat, by omega⟩
    refine ⟨1, (m : Int), rfl, rfl, ?_⟩
    -- found
    refine ⟨by show 0 ≤ sizeLine; decide, fun F nF => ?_⟩
    have e4 := o4 _ _ nr e3
    have o4' := o3.trans o4
    have fF : H F = none := o4'.free (R4.ne nF) nF
    have lF : l ≠ F := ne_of_none e4 nF
    have rF : r ≠ F := R4.ne nF
    refine ⟨.int (1 + m), rfl, 1 + m, rfl, by omega, by omega, ?_⟩
    refine for_range (lo := 0) (n := (1 + (m : Int)).toNat) (fun i σ H' => ∃ ls ys y5, RowAt H' r ∧ Off r H H' ∧ H' l = some (.lst (vs_ ls)) ∧ H' F = some (.lst (vs_ ys)) ∧ Lft (m + 1) i ls ys ∧ σ = [some (.ref r), some (.int (most : Int)), some (.ref l), some (.int (1 + m)), some (.ref F), y5]) ⟨ls, [], none, R4.new nF, o4'.mut fF, by rw [upd_ne lF]; exact e4, upd_same, ⟨lnd, lsm, by omega, l26, rfl⟩, rfl⟩ (fun i σ H5 hi hW => ?_) (fun σ H5 hW => ?_)
    · obtain ⟨ls, ys, y5, R5, o5, el, eF, LF, rfl⟩ := hW
      have hlen : 0 < ls.length := by
        have := LF.ln
        omega
      have hl26 := LF.lm
      refine ⟨.ref F, rfl, .inl ⟨rfl, _, .inl (.inl eF)⟩, .ref l, rfl, .inl ⟨rfl, _, .inl (.inl el)⟩, .ref r, rfl, .ref l, rfl, l, _, rfl, .inl (.inl (.inl el)), r, _, rfl, R5, ?_, ?_, fun H6 g o6 R6 g0 g1 => ?_⟩
      · rw [List.length_map]
        omega
      · rw [List.length_map]
        omega
      rw [List.length_map] at g1
      refine ⟨by show 2 ≤ sizeLine; decide, fun L2' nL2 => ?_⟩
      have rL2 := R6.ne nL2
      have el6 := o6 _ _ nr el
      have eF6 := o6 _ _ rF.symm eF
      have lL2 : l ≠ L2' := ne_of_none el6 nL2
      have FL2 : F ≠ L2' := ne_of_none eF6 nL2
      refine ⟨.ref r, rfl, r, 2, rfl, R6.new nL2, by decide, by decide, fun H7 g2 o7 R7 a0 a1 => ?_⟩
      obtain ⟨v, hv, hvat⟩ : ∃ v : Int, (0 ≤ v ∧ v < ls.length) ∧ atI [V.int 0, V.int g] g2 = some (.int v) := by
        rcases two_at (a := V.int 0) (b := V.int g) a0 a1 with ⟨_, h⟩ | ⟨_, h⟩
        · exact ⟨0, ⟨by decide, by omega⟩, h⟩
        · exact ⟨g, ⟨g0, g1⟩, h⟩
      have hk : v.toNat < ls.length := by omega
      have el7 : H7 l = some (.lst (vs_ ls)) := o7 _ _ nr (by rw [upd_ne lL2]; exact el6)
      have eF7 : H7 F = some (.lst (vs_ ys)) := o7 _ _ rF.symm (by rw [upd_ne FL2]; exact eF6)
      have eL7 := o7 _ _ rL2.symm (upd_same (H := H6) (a := L2') (o := .lst [V.int 0, V.int g]))
      have fL2 : H L2' = none := (o5.trans o6).free rL2 nL2
      have o57 : Off r H H7 := ((o5.trans o6).mut fL2).trans o7
      refine ⟨L2', _, g2, .int v, rfl, rfl, .inl (.inl eL7), hvat, l, _, v, v.toNat, .str (sg ls[v.toNat]), rfl, rfl, el7, by omega, by omega, ?_, ?_, ?_⟩
      · rw [List.length_map]
        exact seqIx hv.1 hv.2
      · rw [List.getElem?_map, List.getElem?_eq_getElem hk]
        rfl
      · refine ⟨F, _, _, rfl, rfl, by rw [upd_ne lF.symm]; exact eF7, ?_, ls.eraseIdx v.toNat, ys ++ [ls[v.toNat]], _, (R7.upd nr.symm).upd rF, (o57.mut fl).mut fF, ?_, ?_, LF.pop _ hk, rfl⟩
        · rw [List.length_map, LF.yl]
          exact sl6 _ (by omega)
        · rw [upd_ne lF, upd_same, vs_erase]
        · rw [upd_same, vs_snoc]
    · obtain ⟨ls, ys, y5, R5, o5, el, eF, LF, rfl⟩ := hW
      have hy : ys.length ≤ 5 := by
        rw [LF.yl]
        omega
      have hyn : ys.length = m + 1 := by
        rw [LF.yl]
        omega
      refine ⟨⟨_, rfl⟩, .ref F, rfl, F, ys.map sg, rfl, .inl (.inl (by rw [List.map_map]; exact eF)), by rw [List.length_map]; omega, fun zs p6 perm srt n6 => ?_⟩
      obtain ⟨ds, rfl, pd⟩ := perm_sg perm
      have f6 : H p6 = none := o5.free (R5.ne n6) n6
      have hdn : ds.length = ys.length := pd.length_eq
      refine ⟨⟨#[]⟩, p6, ds.map sg, rfl, rfl, .inl (.inl (.inl upd_same)), ?_, ?_⟩
      · rw [List.length_map, List.map_map]
        have : (ds.map ((fun x : Str => x.length) ∘ sg)).sum = ds.length := by
          rw [show ((fun x : Str => x.length) ∘ sg) = fun _ => 1 from rfl, List.map_const', List.sum_replicate_nat]
          omega
        rw [this]
        show ds.length + ds.length * 0 ≤ 16777216
        omega
      · rw [join_sg]
        have nd : ds.Nodup := pd.symm.nodup (List.Nodup.sublist (List.sublist_append_left ys ls) LF.nd)
        refine q _ _ (o5.mut f6) (R5.new n6) ⟨?_, ?_, ?_, fun c hc => ?_⟩ ?_
        · show 1 ≤ ds.toArray.size
          rw [List.size_toArray]
          omega
        · show ds.toArray.size ≤ 5
          rw [List.size_toArray]
          omega
        · exact rise_of (sortedS_sg srt) nd
        · exact LF.sm c (List.mem_append_left _ (pd.mem_iff.mp hc))
        · show ds.toArray.size ≤ most
          rw [List.size_toArray]
          omega
end
end LH

namespace LH
open PySem PySem.Spec PyProof.Rows L2 NdefX LamX
theorem five_int {a b c d e : Int} {L : Nat} (h1 : 1 ≤ L) (h5 : L ≤ 5) : ∃ x, atI [V.int a, V.int b, V.int c, V.int d, V.int e] ((L : Int) - 1) = some (.int x) ∧ ((L = 1 ∧ x = a) ∨ (L = 2 ∧ x = b) ∨ (L = 3 ∧ x = c) ∨ (L = 4 ∧ x = d) ∨ (L = 5 ∧ x = e)) := by
  have : L = 1 ∨ L = 2 ∨ L = 3 ∨ L = 4 ∨ L = 5 := by omega
  rcases this with rfl | rfl | rfl | rfl | rfl
  · exact ⟨a, rfl, .inl ⟨rfl, rfl⟩⟩
  · exact ⟨b, rfl, .inr (.inl ⟨rfl, rfl⟩)⟩
  · exact ⟨c, rfl, .inr (.inr (.inl ⟨rfl, rfl⟩))⟩
  · exact ⟨d, rfl, .inr (.inr (.inr (.inl ⟨rfl, rfl⟩)))⟩
  · exact ⟨e, rfl, .inr (.inr (.inr (.inr ⟨rfl, rfl⟩)))⟩
/-- so many hands that there are few words -/
def NumOk (L n : Nat) : Prop := 1 ≤ n ∧ n ≤ 40 ∧ L ^ n ≤ 1100
theorem num_le {L n m : Nat} (h : NumOk L m) (h1 : 1 ≤ n) (hl : 1 ≤ L) (hn : n ≤ m) : NumOk L n := ⟨h1, Nat.le_trans hn h.2.1, Nat.le_trans (Nat.pow_le_pow_right hl hn) h.2.2⟩
theorem let_take {x : Str} (hx : IsLet x) (h5 : x.length = 5) {n : Nat} (h1 : 1 ≤ n) (hn : n ≤ 5) : IsLet (cutS x none (some (n : Int))) ∧ (cutS x none (some (n : Int))).length = n := by
  have e : cutS x none (some (n : Int)) = tx (x.cps.toList.take n) := (congrArg (fun y => cutS y none (some (n : Int))) (tJ_list x).symm).trans (cut_lo x.cps.toList n)
  have xl : x.cps.toList.length = x.length := Array.length_toList
  have l : (tx (x.cps.toList.take n)).length = n := by
    rw [tx_len, List.length_take]
    omega
  rw [e]
  refine ⟨⟨by show 1 ≤ (tx (x.cps.toList.take n)).length; omega, by show (tx (x.cps.toList.take n)).length ≤ 5; omega, ?_, fun c hc => ?_⟩, l⟩
  · exact List.Pairwise.sublist (List.take_sublist _ _) hx.rise
  · exact hx.small c (List.take_subset _ _ hc)
theorem let_abcde : IsLet "abcde" := ⟨by decide, by decide, by decide, by decide⟩
theorem let_bdkxz : IsLet "bdkxz" := ⟨by decide, by decide, by decide, by decide⟩
theorem eight_int {g : Int} (h0 : 0 ≤ g) (h1 : g < 8) : ∃ n : Nat, atI [V.int 2, V.int 3, V.int 2, V.int 3, V.int 4, V.int 1, V.int 5, V.int 2] g = some (.int (n : Int)) ∧ 1 ≤ n ∧ n ≤ 5 := by
  have : g = 0 ∨ g = 1 ∨ g = 2 ∨ g = 3 ∨ g = 4 ∨ g = 5 ∨ g = 6 ∨ g = 7 := by omega
  rcases this with rfl | rfl | rfl | rfl | rfl | rfl | rfl | rfl
  · exact ⟨2, rfl, by decide, by decide⟩
  · exact ⟨3, rfl, by decide, by decide⟩
  · exact ⟨2, rfl, by decide, by decide⟩
  · exact ⟨3, rfl, by decide, by decide⟩
  · exact ⟨4, rfl, by decide, by decide⟩
  · exact ⟨1, rfl, by decide, by decide⟩
  · exact ⟨5, rfl, by decide, by decide⟩
  · exact ⟨2, rfl, by decide, by decide⟩
section
variable {P : Program} {w : World} {K : PySem.W.Frag} {mg : Str → Option Value} {base : Heap}
/-! ### _law_world -/
/-! ### _law_number -/
/-! ### _law_fewer -/
end
end LH

namespace LH
open PySem PySem.Spec PyProof.Rows L2 NdefX LamX LU
theorem iteT' {B : Bool} {A C : Prop} (e : B = true) (h : A) : if B = true then A else C := by
  rw [if_pos e]
  exact h
theorem iteF' {B : Bool} {A C : Prop} (e : B = false) (h : C) : if B = true then A else C := by
  rw [e]
  exact h
theorem two_str {g : Int} {a b : Str} (h0 : 0 ≤ g) (h1 : g < 2) : ∃ x : Str, atI [V.str a, V.str b] g = some (.str x) ∧ (x = a ∨ x = b) := by
  have : g = 0 ∨ g = 1 := by omega
  rcases this with rfl | rfl
  · exact ⟨_, rfl, .inl rfl⟩
  · exact ⟨_, rfl, .inr rfl⟩
theorem three_str {g : Int} {a b c : Str} (h0 : 0 ≤ g) (h1 : g < 3) : ∃ x : Str, atI [V.str a, V.str b, V.str c] g = some (.str x) ∧ (x = a ∨ x = b ∨ x = c) := by
  have : g = 0 ∨ g = 1 ∨ g = 2 := by omega
  rcases this with rfl | rfl | rfl
  · exact ⟨_, rfl, .inl rfl⟩
  · exact ⟨_, rfl, .inr (.inl rfl)⟩
  · exact ⟨_, rfl, .inr (.inr rfl)⟩
theorem eqv_strs (xs : List Str) : PyData.eqv (.list (xs.map PyData.str)) (.list (xs.map PyData.str)) = true := by
  have h : PyData.eqvAll (xs.map PyData.str) (xs.map PyData.str) = true := by
    induction xs with
    | nil => rfl
    | cons x r ih => simp [PyData.eqvAll, PyData.eqv, ih]
  simp [PyData.eqv, h]
theorem eqv_nilS (xs : List Str) : PyData.eqv (.list (xs.map PyData.str)) (.list []) = decide (xs = []) := by
  cases xs with
  | nil => rfl
  | cons x r => simp [PyData.eqv, PyData.eqvAll]
theorem vs_str (cs : List Nat) : vs_ cs = (cs.map sg).map V.str := by
  rw [List.map_map]
  rfl
section
variable {P : Program} {w : World} {K : PySem.W.Frag} {mg : Str → Option Value} {base : Heap}
/-! ### _law_some -/
def sp_law_some : Sp := fun vs H Q _ => ∃ (r : Addr) (z : Str), vs = [.ref r, .str z] ∧ RowAt H r ∧ IsLet z ∧ ∀ H' (cs : List Nat), Off r H H' → RowAt H' r → cs.Sublist z.cps.toList → cs ≠ [] → Q (.str (tx cs)) H'
theorem ok_law_some (T : TX K mg) : FnOk P w K mg base CX0 2 T.a_law_some T.fd_law_some ["draws", "letters"] sp_law_some := by
  have G_law_take : FnOk P w K mg base CX0 1 T.a_law_take T.fd_law_take ["draws", "many"] sp_law_take := ok_law_take T
  refine T.F_law_some.ok sc_law_some (fun vs H Q E h => ?_) (fun cdv A outer s H vs Q E hr h => ?_)
  · obtain ⟨r, z, rfl, _⟩ := h
    rfl
  · obtain ⟨r, z, rfl, hR, hz, q⟩ := h
    refine ⟨_, (pss_cons (ps_setLc (i := 2) (own := [("letter", 3)]) (g := gName 3) (by rfl) sc_law_some.nd rfl rfl (sw_true rfl rfl rfl (by decide +kernel)) (pi_str (pv 1)) (blkOk_by (own := [("letter", 3)]) (N := N_law_some) (by kernel_rfl)) (fun _ _ _ _ _ => (pg_name (i := 3) sc_law_some.nd rfl (by first | exact Or.inl rfl | exact Or.inr rfl))) (fun _ _ _ _ _ => (pts_one (pt_cmpR op_eq (pe_call G_law_take (hr.mono (by decide)) (by rfl) T.g_law_take T.F_law_take.kp T.b_law_take .nil pass0 (pa_cons (pv 0) (pa_cons pe_int pa_nil))) pe_int (nomark _)))) (fun _ _ _ _ _ => (pv 3)))
      (pss_one (ps_ret (pe_ifExp (pt_cmpR (op_neD hr.units) (pv 2) (pe_lst pa_nil) (nomark _)) (pe_m1 PySem.F.slot_str_join PySem.F.type_str_join (mt_joinK K rfl) pe_str (pv 2)) (pe_ix ix_str (pv 1) (pe_call G_law_take (hr.mono (by decide)) (by rfl) T.g_law_take T.F_law_take.kp T.b_law_take .nil pass0 (pa_cons (pv 0) (pa_cons (pe_callB call_len_str (by rfl) T.m_len (by decide +kernel) (pa_cons (pv 1) pa_nil)) pa_nil))) (fun _ _ => rfl)))))), ?_⟩
    have h1 := hz.one
    have h5 := hz.five
    have lz : z.length ≤ sizeLine := Nat.le_trans h5 (by decide)
    have zl : z.cps.toList.length = z.length := Array.length_toList
    refine ⟨.str z, rfl, z, rfl, fun D nD => ?_⟩
    have rD : r ≠ D := hR.ne nD
    refine lc_it walk_str (fun i H' => RowAt H' r ∧ Off r H H' ∧ ∃ cs : List Nat, H' D = some (.lst (vs_ cs)) ∧ cs.Sublist (z.cps.toList.take i)) ⟨hR.new nD, Off.new nD, [], upd_same, List.nil_sublist _⟩ (fun _ _ _ _ => trivial) (fun i xx H2 H2' hi hW hY => ?_) (fun H2 hW => ?_)
    · obtain ⟨R2, o2, cs, e2, sb⟩ := hW
      obtain ⟨rfl, c, hc, rfl⟩ := hY
      have hc' : z.cps.toList[i]? = some c := by
        rw [Array.getElem?_toList]
        exact hc
      have cl : cs.length ≤ 5 := by
        have h := sb.length_le
        rw [List.length_take] at h
        omega
      refine ⟨rfl, .ref r, rfl, r, 2, rfl, R2, by decide, by decide, fun H3 g o3 R3 g0 g1 => ⟨rfl, _, rfl, ite2 (fun _ => ?_) (fun _ => ?_)⟩⟩
      · refine ⟨.str (sg c), rfl, vs_ cs, o3 _ _ rD.symm e2, by rw [List.length_map]; exact Nat.lt_of_le_of_lt cl (by decide), R3.upd rD, (o2.trans o3).mut nD, cs ++ [c], by rw [upd_same, vs_snoc], ?_⟩
        rw [take_snoc hc']
        exact sb.append (List.Sublist.refl _)
      · refine ⟨R3, o2.trans o3, cs, o3 _ _ rD.symm e2, ?_⟩
        rw [take_snoc hc']
        exact sb.trans (List.sublist_append_left _ _)
    obtain ⟨R2, o2, cs, e2, sb⟩ := hW
    have sb : cs.Sublist z.cps.toList := sb.trans (List.take_sublist _ _)
    have csl : cs.length ≤ 5 := by
      have := sb.length_le
      omega
    have ok : ∀ x ∈ cs.map sg, PyData.strOk x = true := fun x hx => by
      obtain ⟨c, hc, rfl⟩ := List.mem_map.mp hx
      exact strOk_sg (hz.small c (sb.subset hc)).2
    refine ⟨.ref D, rfl, by show 0 ≤ sizeLine; decide, fun e ne => ?_⟩
    have se := same_new (o := .lst []) ne
    rw [vs_str] at e2
    refine ⟨.list ((cs.map sg).map PyData.str), .list [], .lst (.inl (.inl (se _ _ e2))) (dpAll_str _), .lst (.inl (.inl upd_same)) .nil, shaped_strs _ ok, by decide +kernel, _, rfl, ?_⟩
    rw [eqv_nilS]
    have R3 := R2.same se
    have e3 := se _ _ e2
    have o3 := o2.trans (Off.of se)
    generalize upd H2 e (.lst []) = H3 at se R3 e3 o3
    by_cases hcs : cs = []
    · refine iteF' (by rw [hcs]; rfl) ?_
      refine ⟨.str z, rfl, .ref r, rfl, .str z, rfl, z, rfl, lz, r, ((z.length : Nat) : Int), rfl, R3, by omega, by omega, fun H4 g o4 R4 g0 g1 => ?_⟩
      obtain ⟨k, rfl⟩ : ∃ k : Nat, g = (k : Int) := ⟨g.toNat, by omega⟩
      have hg := List.getElem?_eq_getElem (l := z.cps.toList) (i := k) (by omega)
      have hin := List.getElem_mem (l := z.cps.toList) (n := k) (by omega)
      generalize z.cps.toList[k]'(by omega) = d at hg hin
      exact ⟨z, (k : Int), d, rfl, rfl, lz, atI_nat hg, q H4 [d] (o3.trans o4) R4 (List.singleton_sublist.mpr hin) (List.cons_ne_nil _ _)⟩
    · refine iteT' (by rw [decide_eq_false (fun h => hcs (List.map_eq_nil_iff.mp h))]; rfl) ?_
      refine ⟨⟨_, rfl⟩, .ref D, rfl, ⟨#[]⟩, D, cs.map sg, rfl, rfl, .inl (.inl (.inl e3)), ?_, ?_⟩
      · rw [List.length_map, sum_sg]
        show cs.length + cs.length * 0 ≤ 16777216
        omega
      rw [join_sg]
      exact q H3 cs o3 R3 sb hcs
/-! ### _law_rule -/
def sp_law_rule : Sp := fun vs H Q _ => ∃ (r : Addr) (z sh : Str), vs = [.ref r, .str z, .str sh] ∧ RowAt H r ∧ IsLet z ∧ ∀ H' p R, Off r H H' → RowAt H' r → RulAt H' p R → R.Ok z sh → Q (.ref p) H'
theorem ok_law_rule (T : TX K mg) : FnOk P w K mg base CX0 3 T.a_law_rule T.fd_law_rule ["draws", "letters", "shape"] sp_law_rule := by
  have G_law_take : FnOk P w K mg base CX0 1 T.a_law_take T.fd_law_take ["draws", "many"] sp_law_take := ok_law_take T
  have G_law_some : FnOk P w K mg base CX0 2 T.a_law_some T.fd_law_some ["draws", "letters"] sp_law_some := ok_law_some T
  refine T.F_law_rule.ok sc_law_rule (fun vs H Q E h => ?_) (fun cdv A outer s H vs Q E hr h => ?_)
  · obtain ⟨r, z, sh, rfl, _⟩ := h
    rfl
  · obtain ⟨r, z, sh, rfl, hR, hz, q⟩ := h
    refine ⟨_, (pss_cons (ps_set (i := 3) sc_law_rule.nd rfl (Or.inl rfl) (pe_call G_law_take (hr.mono (by decide)) (by rfl) T.g_law_take T.F_law_take.kp T.b_law_take .nil pass0 (pa_cons (pv 0) (pa_cons pe_int pa_nil))))
      (pss_cons (ps_setLc (i := 4) (own := [("k", 7)]) (g := gName 7) (tt := tYes) (by rfl) sc_law_rule.nd rfl rfl (sw_true rfl rfl rfl (by decide +kernel)) (pi_range1 (by rfl) T.m_range (pa_cons pe_int pa_nil)) (blkOk_by (own := [("k", 7)]) (N := N_law_rule) (by kernel_rfl)) (fun _ _ _ _ _ => (pg_name (i := 7) sc_law_rule.nd rfl (by first | exact Or.inl rfl | exact Or.inr rfl))) (fun _ _ _ _ _ => pts_nil) (fun _ _ _ _ _ => (pe_ix ix_str (pv 1) (pe_call G_law_take (hr.mono (by decide)) (by rfl) T.g_law_take T.F_law_take.kp T.b_law_take .nil pass0 (pa_cons (pv 0) (pa_cons (pe_callB call_len_str (by rfl) T.m_len (by decide +kernel) (pa_cons (pv 1) pa_nil)) pa_nil))) (fun _ _ => rfl))))
      (pss_cons (ps_if (pt_cmpR op_lt (pv 3) pe_int (nomark _))
        (pss_one (ps_ret (pe_tup (pa_cons pe_str (pa_cons (pe_ix (ix_listK K rfl) (pv 4) pe_int (fun _ _ => rfl)) (pa_cons (pe_ix (ix_listK K rfl) (pv 4) pe_int (fun _ _ => rfl)) (pa_cons (pe_ix (ix_listK K rfl) (pv 4) pe_int (fun _ _ => rfl)) (pa_cons (pe_ix (ix_listK K rfl) (pv 4) pe_int (fun _ _ => rfl)) pa_nil))))))))
        pss_nil)
      (pss_cons (ps_if (pt_cmpR op_eq (pv 3) pe_int (nomark _))
        (pss_cons (ps_set (i := 5) sc_law_rule.nd rfl (Or.inl rfl) (pe_m1 PySem.F.slot_str_join PySem.F.type_str_join (mt_joinK K rfl) pe_str (pe_lc (own := [("letter", 8)]) (g := gName 8) (tt := tYes) (by rfl) sc_law_rule.nd (pi_str (pv 1)) (blkOk_by (own := [("letter", 8)]) (N := N_law_rule) (by kernel_rfl)) (fun _ _ _ _ _ => (pg_name (i := 8) sc_law_rule.nd rfl (by first | exact Or.inl rfl | exact Or.inr rfl))) (fun _ _ _ _ _ => pts_nil) (fun _ _ _ _ _ => (pe_ix ix_str (pv 1) (pe_call G_law_take (hr.mono (by decide)) (by rfl) T.g_law_take T.F_law_take.kp T.b_law_take .nil pass0 (pa_cons (pv 0) (pa_cons (pe_callB call_len_str (by rfl) T.m_len (by decide +kernel) (pa_cons (pv 1) pa_nil)) pa_nil))) (fun _ _ => rfl))))))
          (pss_one (ps_ret (pe_tup (pa_cons pe_str (pa_cons (pe_ix (ix_listK K rfl) (pv 4) pe_int (fun _ _ => rfl)) (pa_cons (pe_ix (ix_listK K rfl) (pv 4) pe_int (fun _ _ => rfl)) (pa_cons (pv 5) pa_nil))))))))
        pss_nil)
      (pss_cons (ps_if (pt_cmpR op_eq (pv 3) pe_int (nomark _))
        (pss_one (ps_ret (pe_tup (pa_cons pe_str (pa_cons (pe_ix (ix_listK K rfl) (pv 4) pe_int (fun _ _ => rfl)) (pa_cons (pe_ix (ix_listK K rfl) (pv 4) pe_int (fun _ _ => rfl)) (pa_cons pe_non pa_nil)))))))
        pss_nil)
      (pss_cons (ps_set (i := 6) sc_law_rule.nd rfl (Or.inl rfl) (pe_ix (ix_listK K rfl) (pe_lst (pa_cons pe_str (pa_cons pe_str (pa_cons pe_str pa_nil)))) (pe_call G_law_take (hr.mono (by decide)) (by rfl) T.g_law_take T.F_law_take.kp T.b_law_take .nil pass0 (pa_cons (pv 0) (pa_cons pe_int pa_nil))) (fun _ _ => rfl)))
      (C8.pss_cut (ps_if (pt_cmpR op_eq (pv 2) pe_str (nomark _))
        (pss_one (ps_set (i := 6) sc_law_rule.nd rfl (Or.inl rfl) pe_str))
        pss_nil)
      (pss_one (ps_ret (pe_tup (pa_cons pe_str (pa_cons (pe_ix (ix_listK K rfl) (pv 4) pe_int (fun _ _ => rfl)) (pa_cons (pe_ix (ix_listK K rfl) (pv 4) pe_int (fun _ _ => rfl)) (pa_cons (pe_tup (pa_cons (pe_ix (ix_listK K rfl) (pe_lst (pa_cons pe_str (pa_cons pe_str pa_nil))) (pe_call G_law_take (hr.mono (by decide)) (by rfl) T.g_law_take T.F_law_take.kp T.b_law_take .nil pass0 (pa_cons (pv 0) (pa_cons pe_int pa_nil))) (fun _ _ => rfl)) (pa_cons (pv 6) (pa_cons (pe_call G_law_some (hr.mono (by decide)) (by rfl) T.g_law_some T.F_law_some.kp T.b_law_some .nil pass0 (pa_cons (pv 0) (pa_cons (pv 1) pa_nil))) pa_nil)))) pa_nil)))))))))))))), ?_⟩
    have h1 := hz.one
    have h5 := hz.five
    have lz : z.length ≤ sizeLine := Nat.le_trans h5 (by decide)
    have zl : z.cps.toList.length = z.length := Array.length_toList
    refine ⟨.ref r, rfl, r, 7, rfl, hR, by decide, by decide, fun H1 g o1 R1 g0 g1 => ?_⟩
    refine ⟨4, rfl, by decide, by decide, fun D nD => ?_⟩
    have rD : r ≠ D := R1.ne nD
    have nDH : H D = none := o1.free rD nD
    refine lc_range (lo := 0) (n := (4 : Int).toNat) (fun i H' => RowAt H' r ∧ Off r H H' ∧ ∃ cs, H' D = some (.lst (vs_ cs)) ∧ cs.length = i ∧ ∀ c ∈ cs, c ∈ z.cps.toList) ⟨R1.new nD, o1.mut nDH, [], upd_same, rfl, fun _ h => nomatch h⟩ (fun i H2 hi hW => ?_) (fun H2 hW => ?_)
    · obtain ⟨R2, o2, cs, e2, li, al⟩ := hW
      refine ⟨rfl, lcyes ?_⟩
      refine ⟨.str z, rfl, .ref r, rfl, .str z, rfl, z, rfl, lz, r, ((z.length : Nat) : Int), rfl, R2, by omega, by omega, fun H3 g o3 R3 g0 g1 => ?_⟩
      obtain ⟨k, rfl⟩ : ∃ k : Nat, g = (k : Int) := ⟨g.toNat, by omega⟩
      have hg := List.getElem?_eq_getElem (l := z.cps.toList) (i := k) (by omega)
      have hin := List.getElem_mem (l := z.cps.toList) (n := k) (by omega)
      generalize z.cps.toList[k]'(by omega) = c at hg hin
      refine ⟨z, (k : Int), c, rfl, rfl, lz, atI_nat hg, vs_ cs, o3 _ _ rD.symm e2, ?_, R3.upd rD, (o2.trans o3).mut nDH, cs ++ [c], by rw [upd_same, vs_snoc], by rw [List.length_append, li]; rfl, mem_snoc al hin⟩
      rw [List.length_map, li]
      have : i < 4 := hi
      exact sl6 _ (by omega)
    obtain ⟨R2, o2, cs, e2, li, al⟩ := hW
    have li : cs.length = 4 := li
    obtain ⟨x, y, u, v, rfl⟩ : ∃ x y u v, cs = [x, y, u, v] := by
      match cs, li with
      | [x, y, u, v], _ => exact ⟨x, y, u, v, rfl⟩
    have hx := al x (by simp)
    have hy := al y (by simp)
    have hu := al u (by simp)
    have hv := al v (by simp)
    have sq : SqL K H2 D (vs_ [x, y, u, v]) := .inl (.inl e2)
    refine ⟨.int g, rfl, g, 2, rfl, rfl, _, rfl, ite2 (fun _ => ?_) (fun _ => ?_)⟩
    · refine ⟨.ref D, rfl, D, _, 0, _, rfl, rfl, sq, atI_nat (j := 0) rfl, .ref D, rfl, D, _, 1, _, rfl, rfl, sq, atI_nat (j := 1) rfl, .ref D, rfl, D, _, 2, _, rfl, rfl, sq, atI_nat (j := 2) rfl, .ref D, rfl, D, _, 3, _, rfl, rfl, sq, atI_nat (j := 3) rfl, by show 5 ≤ sizeLine; decide, fun p np => ?_⟩
      exact q _ p (.two x y u v) (o2.mut (o2.free (R2.ne np) np)) (R2.new np) upd_same ⟨hx, hy, hu, hv⟩
    refine ⟨.int g, rfl, rfl, _, rfl, ite2 (fun _ => ?_) (fun _ => ?_)⟩
    · refine ⟨⟨_, rfl⟩, .str z, rfl, z, rfl, fun D2 n2 => ?_⟩
      have r2 : r ≠ D2 := R2.ne n2
      have f2 : H D2 = none := o2.free r2 n2
      have dd : D ≠ D2 := ne_of_none e2 n2
      refine lc_it walk_str (fun i H' => RowAt H' r ∧ Off r H H' ∧ H' D = some (.lst (vs_ [x, y, u, v])) ∧ ∃ cs, H' D2 = some (.lst (vs_ cs)) ∧ cs.length = i ∧ ∀ c ∈ cs, c ∈ z.cps.toList) ⟨R2.new n2, o2.mut f2, by rw [upd_ne dd]; exact e2, [], upd_same, rfl, fun _ h => nomatch h⟩ (fun _ _ _ _ => trivial) (fun i xx H4 H4' hi hW hY => ?_) (fun H4 hW => ?_)
      · obtain ⟨R4, o4, e4, cs, d4, l4, c4⟩ := hW
        obtain ⟨rfl, c, hc, rfl⟩ := hY
        refine ⟨rfl, lcyes ?_⟩
        refine ⟨.str z, rfl, .ref r, rfl, .str z, rfl, z, rfl, lz, r, ((z.length : Nat) : Int), rfl, R4, by omega, by omega, fun H5 g o5 R5 g0 g1 => ?_⟩
        obtain ⟨k, rfl⟩ : ∃ k : Nat, g = (k : Int) := ⟨g.toNat, by omega⟩
        have hg := List.getElem?_eq_getElem (l := z.cps.toList) (i := k) (by omega)
        have hin := List.getElem_mem (l := z.cps.toList) (n := k) (by omega)
        generalize z.cps.toList[k]'(by omega) = d at hg hin
        refine ⟨z, (k : Int), d, rfl, rfl, lz, atI_nat hg, vs_ cs, o5 _ _ r2.symm d4, ?_, R5.upd r2, (o4.trans o5).mut f2, by rw [upd_ne dd]; exact o5 _ _ rD.symm e4, cs ++ [d], by rw [upd_same, vs_snoc], by rw [List.length_append, l4]; rfl, mem_snoc c4 hin⟩
        rw [List.length_map, l4]
        have : i < z.length := hi
        exact sl6 _ (by omega)
      · obtain ⟨R4, o4, e4, cs, d4, l4, c4⟩ := hW
        have l4 : cs.length = z.length := l4
        refine ⟨⟨#[]⟩, D2, cs.map sg, rfl, rfl, .inl (.inl (.inl (by rw [List.map_map]; exact d4))), ?_, ?_⟩
        · rw [List.length_map, sum_sg]
          show cs.length + cs.length * 0 ≤ 16777216
          omega
        rw [join_sg]
        have sq : SqL K H4 D (vs_ [x, y, u, v]) := .inl (.inl e4)
        refine ⟨.ref D, rfl, D, _, 0, _, rfl, rfl, sq, atI_nat (j := 0) rfl, .ref D, rfl, D, _, 1, _, rfl, rfl, sq, atI_nat (j := 1) rfl, .str _, rfl, by show 4 ≤ sizeLine; decide, fun p np => ?_⟩
        exact q _ p (.call x y cs) (o4.mut (o4.free (R4.ne np) np)) (R4.new np) upd_same ⟨hx, hy, l4, c4⟩
    refine ⟨.int g, rfl, rfl, _, rfl, ite2 (fun _ => ?_) (fun _ => ?_)⟩
    · refine ⟨.ref D, rfl, D, _, 0, _, rfl, rfl, sq, atI_nat (j := 0) rfl, .ref D, rfl, D, _, 1, _, rfl, rfl, sq, atI_nat (j := 1) rfl, by show 4 ≤ sizeLine; decide, fun p np => ?_⟩
      exact q _ p (.one x y none) (o2.mut (o2.free (R2.ne np) np)) (R2.new np) ⟨.non, upd_same, rfl⟩ ⟨hx, hy, fun G h => nomatch h⟩
    -- where
    refine ⟨by show 3 ≤ sizeLine; decide, fun L nL => ?_⟩
    have LD : D ≠ L := ne_of_none e2 nL
    have eL : (upd H2 L (.lst [V.str "left", .str "right", .str "others"])) L = some (.lst [V.str "left", .str "right", .str "others"]) := upd_same
    have R3 := R2.new (o := .lst [V.str "left", .str "right", .str "others"]) nL
    have o3 : Off r H (upd H2 L (.lst [V.str "left", .str "right", .str "others"])) := o2.mut (o2.free (R2.ne nL) nL)
    have e3 := same_new (o := .lst [V.str "left", .str "right", .str "others"]) nL _ _ e2
    have rL : r ≠ L := R2.ne nL
    generalize upd H2 L (.lst [V.str "left", .str "right", .str "others"]) = H3 at eL R3 o3 e3
    refine ⟨.ref r, rfl, r, 3, rfl, R3, by decide, by decide, fun H4 g4 o4 R4 a0 a1 => ?_⟩
    obtain ⟨wh, ewh, hwh⟩ := three_str (a := "left") (b := "right") (c := "others") a0 a1
    have o14 := o3.trans o4
    have e4 := o4 _ _ rD.symm e3
    refine ⟨L, _, g4, .str wh, rfl, rfl, .inl (.inl (o4 _ _ rL.symm eL)), ewh, ?_⟩
    refine ⟨fun σ' H' => H' = H4 ∧ ∃ wh' : Str, σ' = [some (.ref r), some (.str z), some (.str sh), some (.int g), some (.ref D), none, some (.str wh'), none, none] ∧ (wh' = "left" ∨ wh' = "right" ∨ wh' = "others") ∧ (sh = "ring" → wh' = "others"), ?_, fun σ' H' hM => ?_⟩
    · refine ⟨.str sh, rfl, rfl, _, rfl, ite2 (fun y => ?_) (fun y => ?_)⟩
      · exact ⟨rfl, "others", rfl, .inr (.inr rfl), fun _ => rfl⟩
      · exact ⟨rfl, wh, rfl, hwh, fun h => absurd (decide_eq_true (by rw [h])) y⟩
    obtain ⟨rfl, wh', rfl, hwh', hring⟩ := hM
    have sq4 : SqL K H' D (vs_ [x, y, u, v]) := .inl (.inl e4)
    refine ⟨.ref D, rfl, D, _, 0, _, rfl, rfl, sq4, atI_nat (j := 0) rfl, .ref D, rfl, D, _, 1, _, rfl, rfl, sq4, atI_nat (j := 1) rfl, by show 2 ≤ sizeLine; decide, fun L2 nL2 => ?_⟩
    have eL2 : (upd H' L2 (.lst [V.str "all", .str "some"])) L2 = some (.lst [V.str "all", .str "some"]) := upd_same
    have R5 := R4.new (o := .lst [V.str "all", .str "some"]) nL2
    have o5 : Off r H (upd H' L2 (.lst [V.str "all", .str "some"])) := o14.mut (o14.free (R4.ne nL2) nL2)
    have rL2 : r ≠ L2 := R4.ne nL2
    generalize upd H' L2 (.lst [V.str "all", .str "some"]) = H5 at eL2 R5 o5
    refine ⟨.ref r, rfl, r, 2, rfl, R5, by decide, by decide, fun H6 g6 o6 R6 b0 b1 => ?_⟩
    obtain ⟨hw, ehw, hhw⟩ := two_str (a := "all") (b := "some") b0 b1
    refine ⟨L2, _, g6, .str hw, rfl, rfl, .inl (.inl (o6 _ _ rL2.symm eL2)), ehw, ?_⟩
    refine ⟨.str wh', rfl, .ref r, rfl, .str z, rfl, r, z, rfl, R6, hz, fun H7 sm o7 R7 sb ne => ⟨by show 3 ≤ sizeLine; decide, fun gp ngp => ?_⟩⟩
    have o17 := (o5.trans o6).trans o7
    have R8 := R7.new (o := .tup [V.str hw, .str wh', .str (tx sm)]) ngp
    have o8 : Off r H (upd H7 gp (.tup [V.str hw, .str wh', .str (tx sm)])) := o17.mut (o17.free (R7.ne ngp) ngp)
    have egp : (upd H7 gp (.tup [V.str hw, .str wh', .str (tx sm)])) gp = some (.tup [V.str hw, .str wh', .str (tx sm)]) := upd_same
    generalize upd H7 gp (.tup [V.str hw, .str wh', .str (tx sm)]) = H8 at R8 o8 egp
    refine ⟨by show 4 ≤ sizeLine; decide, fun p np => ?_⟩
    have sml := sb.length_le
    refine q _ p (.one x y (some ⟨hw, wh', sm⟩)) (o8.mut (o8.free (R8.ne np) np)) (R8.new np) ⟨.ref gp, upd_same, gp, rfl, same_new np _ _ egp⟩ ⟨hx, hy, fun G h => ?_⟩
    cases h
    exact ⟨hhw, hwh', hring, fun c hc => sb.subset hc, ⟨List.length_pos_iff.mpr ne, by show sm.length ≤ 100; omega⟩, hz.rise.sublist sb⟩
end
end LH

namespace LH
open PySem PySem.Spec PyProof.Rows L2 NdefX LamX LU
theorem join_flatS : ∀ ts : List (List Nat), Str.join ⟨#[]⟩ (ts.map tJ) = tJ ts.flatten
  | [] => rfl
  | [t] => by
    show tJ t = tJ (t ++ [])
    rw [List.append_nil]
  | t :: u :: r => by
    have ih := join_flatS (u :: r)
    show tJ t ++ tJ [] ++ Str.join ⟨#[]⟩ ((u :: r).map tJ) = _
    rw [ih, tJ_app, tJ_app, List.append_nil]
    rfl
theorem join_flat (ts : List (List Nat)) : Txt.join ⟨#[]⟩ (ts.map tJ) = tJ ts.flatten := by
  rw [TL.join_eq]
  exact join_flatS ts
/-! ### items of branches, as texts in lists -/
def IsAt (H : Hp) (as : List Addr) (tss : List (List (List Nat))) : Prop := as.length = tss.length ∧ as.Nodup ∧ ∀ (k : Nat) (a : Addr) (ts : List (List Nat)), as[k]? = some a → tss[k]? = some ts → H a = some (.lst ((ts.map tJ).map V.str))
structure GoodT (z : List Nat) (tss : List (List (List Nat))) : Prop where
  sum : (tss.map List.length).sum ≤ 8
  ne : ∀ ts ∈ tss, ts ≠ []
  it : ∀ ts ∈ tss, ∀ t ∈ ts, t.length ≤ 20 ∧ ∃ i, ItT z i t
theorem sum_le_mem : ∀ {ns : List Nat} {n : Nat}, n ∈ ns → n ≤ ns.sum
  | [], _, h => nomatch h
  | a :: r, n, h => by
    rw [List.sum_cons]
    rcases List.mem_cons.mp h with rfl | h
    · omega
    · have := sum_le_mem h
      omega
theorem GoodT.each {z : List Nat} {tss : List (List (List Nat))} (g : GoodT z tss) {ts : List (List Nat)} (h : ts ∈ tss) : ts.length ≤ 8 := Nat.le_trans (sum_le_mem (List.mem_map.mpr ⟨ts, h, rfl⟩)) g.sum
theorem len_le_sum : ∀ {tss : List (List (List Nat))}, (∀ ts ∈ tss, ts ≠ []) → tss.length ≤ (tss.map List.length).sum
  | [], _ => Nat.le_refl _
  | t :: r, h => by
    have h1 := len_le_sum (tss := r) fun ts hts => h ts (List.mem_cons_of_mem _ hts)
    have h2 := List.length_pos_iff.mpr (h t List.mem_cons_self)
    rw [List.length_cons, List.map_cons, List.sum_cons]
    omega
theorem GoodT.few {z : List Nat} {tss : List (List (List Nat))} (g : GoodT z tss) : tss.length ≤ 8 := Nat.le_trans (len_le_sum g.ne) g.sum
theorem flat_len : ∀ {ts : List (List Nat)} {n : Nat}, (∀ t ∈ ts, t.length ≤ n) → ts.flatten.length ≤ ts.length * n
  | [], _, _ => Nat.zero_le _
  | t :: r, n, h => by
    have h1 := flat_len (ts := r) fun t ht => h t (List.mem_cons_of_mem _ ht)
    have h2 := h t List.mem_cons_self
    rw [List.flatten_cons, List.length_append, List.length_cons, Nat.succ_mul]
    omega
theorem brT_of {z : List Nat} : ∀ {ts : List (List Nat)}, (∀ t ∈ ts, ∃ i, ItT z i t) → ∃ br : List Itm, br.length = ts.length ∧ BrT z br ts.flatten
  | [], _ => ⟨[], rfl, .nil⟩
  | t :: r, h => by
    obtain ⟨br, l, b⟩ := brT_of (ts := r) fun t ht => h t (List.mem_cons_of_mem _ ht)
    obtain ⟨i, hi⟩ := h t List.mem_cons_self
    exact ⟨i :: br, by rw [List.length_cons, List.length_cons, l], .cons hi b⟩
theorem brs_of {z : List Nat} : ∀ {tss : List (List (List Nat))}, (∀ ts ∈ tss, ∀ t ∈ ts, ∃ i, ItT z i t) → ∃ brs : List (List Itm), brs.length = tss.length ∧ manyI brs = (tss.map List.length).sum ∧ ∀ (j : Nat) (br : List Itm) (ts : List (List Nat)), brs[j]? = some br → tss[j]? = some ts → br.length = ts.length ∧ BrT z br ts.flatten
  | [], _ => ⟨[], rfl, rfl, fun j br ts h => by simp at h⟩
  | ts :: r, h => by
    obtain ⟨brs, l, m, b⟩ := brs_of (tss := r) fun t ht => h t (List.mem_cons_of_mem _ ht)
    obtain ⟨br, l1, b1⟩ := brT_of (h ts List.mem_cons_self)
    refine ⟨br :: brs, by rw [List.length_cons, List.length_cons, l], ?_, fun j c u x y => ?_⟩
    · unfold manyI at m ⊢
      rw [List.map_cons, List.sum_cons, List.map_cons, List.sum_cons, m, l1]
    · match j, x, y with
      | 0, x, y =>
        cases x
        cases y
        exact ⟨l1, b1⟩
      | j + 1, x, y => exact b j c u x y
theorem join_lenB (sep : Str) : ∀ xs : List Str, (Str.join sep xs).length = (xs.map (·.length)).sum + (xs.length - 1) * sep.length
  | [] => by
    show 0 = 0 + (0 - 1) * sep.length
    rw [Nat.zero_sub, Nat.zero_mul]
  | [x] => by
    show x.length = (x.length + 0) + 0 * sep.length
    omega
  | x :: y :: r => by
    have ih := join_lenB sep (y :: r)
    show (x ++ sep ++ Str.join sep (y :: r)).length = _
    rw [sl_app, sl_app, ih]
    simp only [List.map_cons, List.sum_cons, List.length_cons]
    have : (r.length + 1 + 1 - 1) * sep.length = sep.length + (r.length + 1 - 1) * sep.length := by
      rw [show r.length + 1 + 1 - 1 = (r.length + 1 - 1) + 1 by omega, Nat.succ_mul, Nat.add_comm]
    omega
theorem sum_le_all {n : Nat} : ∀ {ns : List Nat}, (∀ x ∈ ns, x ≤ n) → ns.sum ≤ ns.length * n
  | [], _ => Nat.zero_le _
  | a :: r, h => by
    have h1 := sum_le_all (ns := r) fun x hx => h x (List.mem_cons_of_mem _ hx)
    have h2 := h a List.mem_cons_self
    rw [List.sum_cons, List.length_cons, Nat.succ_mul]
    omega
/-- the text of branches -/
def patS (tss : List (List (List Nat))) : Str := Txt.join (tJ [124]) ((tss.map List.flatten).map tJ)
theorem GoodT.flat {z : List Nat} {tss : List (List (List Nat))} (g : GoodT z tss) {ts : List (List Nat)} (h : ts ∈ tss) : ts.flatten.length ≤ 160 := by
  have h1 := flat_len fun t ht => (g.it ts h t ht).1
  have h2 := g.each h
  have : ts.length * 20 ≤ 8 * 20 := Nat.mul_le_mul_right _ h2
  omega
theorem GoodT.sums {z : List Nat} {tss : List (List (List Nat))} (g : GoodT z tss) : (((tss.map List.flatten).map tJ).map (fun x : Str => x.length)).sum ≤ 1280 := by
  have := sum_le_all (n := 160) (ns := ((tss.map List.flatten).map tJ).map (fun x : Str => x.length)) fun x hx => by
    obtain ⟨y, hy, rfl⟩ := List.mem_map.mp hx
    obtain ⟨t, ht, rfl⟩ := List.mem_map.mp hy
    obtain ⟨ts, hts, rfl⟩ := List.mem_map.mp ht
    show (tJ ts.flatten).length ≤ 160
    rw [tJ_len]
    exact g.flat hts
  rw [List.length_map, List.length_map, List.length_map] at this
  have h2 := g.few
  have : tss.length * 160 ≤ 8 * 160 := Nat.mul_le_mul_right _ h2
  omega
theorem GoodT.len {z : List Nat} {tss : List (List (List Nat))} (g : GoodT z tss) : (patS tss).length ≤ 2000 := by
  unfold patS
  rw [TL.join_eq, join_lenB]
  have h1 := g.sums
  have h2 := g.few
  have h124 : (tJ [124]).length = 1 := rfl
  rw [h124, List.length_map, List.length_map]
  omega
section
variable {P : Program} {w : World} {K : PySem.W.Frag} {mg : Str → Option Value} {base : Heap}
/-! ### _law_pattern -/
def sp_law_pattern : Sp := fun vs H Q _ => ∃ (F : Addr) (as : List Addr) (z : List Nat) (tss : List (List (List Nat))), vs = [.ref F] ∧ H F = some (.lst (vr as)) ∧ IsAt H as tss ∧ GoodT z tss ∧ ∀ H', Same H H' → Q (.str (patS tss)) H'
theorem ok_law_pattern (T : TX K mg) : FnOk P w K mg base CX0 1 T.a_law_pattern T.fd_law_pattern ["branches"] sp_law_pattern := by
  refine T.F_law_pattern.ok sc_law_pattern (fun vs H Q E h => ?_) (fun cdv A outer s H vs Q E hr h => ?_)
  · obtain ⟨F, as, z, tss, rfl, _⟩ := h
    rfl
  · obtain ⟨F, as, z, tss, rfl, eF, ia, g, q⟩ := h
    refine ⟨_, (pss_one (ps_ret (pe_m1 PySem.F.slot_str_join PySem.F.type_str_join (mt_joinK K rfl) pe_str (pe_lc (own := [("items", 1)]) (g := gName 1) (tt := tYes) (by rfl) sc_law_pattern.nd (pi_listK K rfl (pv 0)) (blkOk_by (own := [("items", 1)]) (N := N_law_pattern) (by kernel_rfl)) (fun _ _ _ _ _ => (pg_name (i := 1) sc_law_pattern.nd rfl (by first | exact Or.inl rfl | exact Or.inr rfl))) (fun _ _ _ _ _ => pts_nil) (fun _ _ _ _ _ => (pe_m1 PySem.F.slot_str_join PySem.F.type_str_join (mt_joinK K rfl) pe_str (pv 1))))))), ?_⟩
    refine ⟨⟨_, rfl⟩, .ref F, rfl, F, rfl, ⟨_, .inl (.inl eF)⟩, fun D nD => ?_⟩
    refine lc_it (walk_list (K := K) (a := F) (xs := vr as)) (fun i H' => Same H H' ∧ H' D = some (.lst ((((tss.take i).map List.flatten).map tJ).map V.str))) ⟨same_new nD, upd_same⟩ (fun i H' _ hP => .inl (.inl (hP.1 _ _ eF))) (fun i x H1 H1' hi hP hY => ?_) (fun H1 hP => ?_)
    · obtain ⟨s1, eD⟩ := hP
      obtain ⟨rfl, hx⟩ := hY
      rw [List.length_map] at hi
      have ha := List.getElem?_eq_getElem hi
      generalize as[i] = a at ha
      rw [List.getElem?_map, ha] at hx
      cases hx
      obtain ⟨ts, hts⟩ : ∃ ts, tss[i]? = some ts := ⟨_, List.getElem?_eq_getElem (by rw [← ia.1]; exact hi)⟩
      have hm := List.mem_of_getElem? hts
      have ea := s1 _ _ (ia.2.2 i a ts ha hts)
      have t8 := g.each hm
      refine ⟨rfl, lcyes ⟨⟨_, rfl⟩, .ref a, rfl, ⟨#[]⟩, a, ts.map tJ, rfl, rfl, .inl (.inl (.inl ea)), ?_, ?_⟩⟩
      · have := sum_le_all (n := 20) (ns := (ts.map tJ).map (fun x : Str => x.length)) fun x hx => by
          obtain ⟨y, hy, rfl⟩ := List.mem_map.mp hx
          obtain ⟨t, ht, rfl⟩ := List.mem_map.mp hy
          show (tJ t).length ≤ 20
          rw [tJ_len]
          exact (g.it ts hm t ht).1
        rw [List.length_map, List.length_map] at this
        rw [List.length_map]
        have h2 : ts.length * 20 ≤ 8 * 20 := Nat.mul_le_mul_right _ t8
        show _ + ts.length * 0 ≤ 16777216
        omega
      rw [join_flat]
      refine ⟨_, eD, ?_, fun b o e => ?_, ?_⟩
      · rw [List.length_map, List.length_map, List.length_map, List.length_take]
        have := g.few
        exact Nat.lt_of_le_of_lt (show min i tss.length ≤ 8 by omega) (by decide)
      · rw [upd_ne (ne_of_none e nD)]
        exact s1 _ _ e
      · rw [upd_same, take_snoc hts, List.map_append, List.map_append, List.map_append]
        rfl
    · obtain ⟨s1, eD⟩ := hP
      rw [List.length_map, ia.1, List.take_of_length_le (Nat.le_refl _)] at eD
      have sb : (Str.ofString "|" : Str) = tJ [124] := by decide +kernel
      refine ⟨Str.ofString "|", D, (tss.map List.flatten).map tJ, rfl, rfl, .inl (.inl (.inl eD)), ?_, ?_⟩
      · have h1 := g.sums
        have h2 := g.few
        have e : (((tss.map List.flatten).map tJ).map (fun x : Str => x.length)).sum + ((tss.map List.flatten).map tJ).length * (Str.ofString "|" : Str).length ≤ 16777216 := by
          rw [sb, List.length_map, List.length_map]
          show _ + tss.length * 1 ≤ 16777216
          omega
        exact e
      · rw [sb]
        exact q H1 s1
/-! ### _law_fitting -/
theorem set_good {z : List Nat} {tss : List (List (List Nat))} (g : GoodT z tss) {k j : Nat} {ts : List (List Nat)} {t : List Nat} (hk : tss[k]? = some ts) (ht : t.length ≤ 20 ∧ ∃ i, ItT z i t) : GoodT z (tss.set k (ts.set j t)) := by
  have hlt := (List.getElem?_eq_some_iff.mp hk).1
  have mem : ∀ us ∈ tss.set k (ts.set j t), us ∈ tss ∨ us = ts.set j t := fun us h => by
    rcases List.mem_or_eq_of_mem_set h with h | h
    · exact .inl h
    · exact .inr h
  have hts := List.mem_of_getElem? hk
  refine ⟨?_, fun us h => ?_, fun us h u hu => ?_⟩
  · have : (tss.set k (ts.set j t)).map List.length = tss.map List.length := by
      rw [List.map_set, List.length_set]
      refine List.ext_getElem? fun i => ?_
      rw [List.getElem?_set]
      by_cases e : k = i
      · subst e
        rw [if_pos rfl, if_pos (by rw [List.length_map]; exact hlt), List.getElem?_map, hk]
        rfl
      · rw [if_neg e]
    rw [this]
    exact g.sum
  · rcases mem us h with h | rfl
    · exact g.ne us h
    · intro e
      have := congrArg List.length e
      rw [List.length_set] at this
      exact g.ne ts hts (List.eq_nil_of_length_eq_zero this)
  · rcases mem us h with h | rfl
    · exact g.it us h u hu
    · rcases List.mem_or_eq_of_mem_set hu with hu | rfl
      · exact g.it ts hts u hu
      · exact ht
/-- letters in brackets, and the first of them alone -/
theorem brk_first {z : List Nat} (zl : ∀ c ∈ z, 97 ≤ c ∧ c ≤ 122) {i : Itm} {t : List Nat} (h : ItT z i t) (h0 : t[0]? = some 91) : ∃ s0 p, t[1]? = some s0 ∧ 93 ∈ t ∧ t.idxOf 93 = p ∧ p + 1 ≤ t.length ∧ (s0 :: t.drop (p + 1)).length ≤ 2 ∧ ∃ j, ItT z j (s0 :: t.drop (p + 1)) := by
  obtain ⟨hm, hd, q, rfl⟩ := h
  have ml : (mkI i.m).length ≤ 1 := by
    unfold mkI
    by_cases h0 : i.m = 0
    · rw [if_pos h0]
      decide
    · rw [if_neg h0]
      by_cases h1 : i.m = 1
      · rw [if_pos h1]
        decide
      · rw [if_neg h1]
        decide
  generalize i.s = s at q
  cases q with
  | dot _ => cases h0
  | @one c hc =>
    have e : c = 91 := Option.some.inj h0
    have := zl c hc
    omega
  | brk hn hp hs =>
    cases s with
    | nil => exact absurd rfl hn
    | cons a r =>
      have ha := hs a List.mem_cons_self
      have no : ∀ c ∈ 91 :: a :: r, c ≠ 93 := fun c hc => by
        rcases List.mem_cons.mp hc with rfl | hc
        · decide
        · have := zl c (hs c hc)
          omega
      have et : 91 :: (a :: r) ++ [93] ++ mkI i.m = (91 :: a :: r) ++ (93 :: mkI i.m) := by simp
      have hi : (91 :: (a :: r) ++ [93] ++ mkI i.m).idxOf 93 = (91 :: a :: r).length := by
        rw [et, List.idxOf_append, if_neg (fun h => no 93 h rfl), List.idxOf_cons_self, Nat.zero_add]
      have hdr : (91 :: (a :: r) ++ [93] ++ mkI i.m).drop ((91 :: a :: r).length + 1) = mkI i.m := by
        rw [et, List.drop_append]
        simp
      refine ⟨a, _, rfl, ?_, hi, ?_, ?_, ⟨[a], i.m⟩, ?_⟩
      · rw [et]
        exact List.mem_append_right _ List.mem_cons_self
      · rw [et, List.length_append, List.length_cons (a := 93)]
        omega
      · rw [hdr, List.length_cons]
        omega
      · rw [hdr]
        exact ⟨hm, [a], .one ha, rfl⟩
theorem itT_ne {z : List Nat} {i : Itm} {t : List Nat} (h : ItT z i t) : ∃ c, t[0]? = some c := by
  obtain ⟨_, hd, q, rfl⟩ := h
  generalize i.s = s at q
  cases q with
  | dot _ => exact ⟨_, rfl⟩
  | one _ => exact ⟨_, rfl⟩
  | brk _ _ _ => exact ⟨_, rfl⟩
def OffA (as : List Addr) (H H' : Hp) : Prop := ∀ b o, b ∉ as → H b = some o → H' b = some o
theorem OffA.refl (as : List Addr) (H : Hp) : OffA as H H := fun _ _ _ h => h
theorem OffA.trans {as : List Addr} {H H1 H2 : Hp} (a : OffA as H H1) (b : OffA as H1 H2) : OffA as H H2 := fun c o n h => b c o n (a c o n h)
theorem OffA.of {as : List Addr} {H H1 : Hp} (s : Same H H1) : OffA as H H1 := fun b o _ h => s b o h
theorem IsAt.same {H H' : Hp} {as : List Addr} {tss : List (List (List Nat))} (h : IsAt H as tss) (s : Same H H') : IsAt H' as tss := ⟨h.1, h.2.1, fun k a ts x y => s _ _ (h.2.2 k a ts x y)⟩
theorem IsAt.set {H : Hp} {as : List Addr} {tss : List (List (List Nat))} (h : IsAt H as tss) {k : Nat} {a : Addr} {ts : List (List Nat)} (ha : as[k]? = some a) : IsAt (upd H a (.lst ((ts.map tJ).map V.str))) as (tss.set k ts) := by
  refine ⟨by rw [List.length_set]; exact h.1, h.2.1, fun i b us x y => ?_⟩
  rw [List.getElem?_set] at y
  by_cases e : k = i
  · subst e
    rw [ha] at x
    cases x
    rw [if_pos rfl] at y
    split at y
    · cases y
      exact upd_same
    · cases y
  · rw [if_neg e] at y
    have ne : b ≠ a := fun z => by
      subst z
      have a1 := List.getElem?_eq_some_iff.mp x
      have a2 := List.getElem?_eq_some_iff.mp ha
      rcases Nat.lt_trichotomy k i with q | q | q
      · exact List.pairwise_iff_getElem.mp h.2.1 k i a2.1 a1.1 q (a2.2.trans a1.2.symm)
      · exact e q
      · exact List.pairwise_iff_getElem.mp h.2.1 i k a1.1 a2.1 q (a1.2.trans a2.2.symm)
    rw [upd_ne ne]
    exact h.2.2 i b us x y
def sp_law_fitting : Sp := fun vs H Q _ => ∃ (F : Addr) (as : List Addr) (z : List Nat) (tss : List (List (List Nat))), vs = [.ref F] ∧ H F = some (.lst (vr as)) ∧ F ∉ as ∧ IsAt H as tss ∧ (∀ c ∈ z, 97 ≤ c ∧ c ≤ 122) ∧ GoodT z tss ∧ ∀ H' tss', OffA as H H' → IsAt H' as tss' → GoodT z tss' → tss'.length = tss.length → Q (.ref F) H'
theorem ok_law_fitting (T : TX K mg) : FnOk P w K mg base CX0 2 T.a_law_fitting T.fd_law_fitting ["found"] sp_law_fitting := by
  have G_law_pattern : FnOk P w K mg base CX0 1 T.a_law_pattern T.fd_law_pattern ["branches"] sp_law_pattern := ok_law_pattern T
  refine T.F_law_fitting.ok sc_law_fitting (fun vs H Q E h => ?_) (fun cdv A outer s H vs Q E hr h => ?_)
  · obtain ⟨F, as, z, tss, rfl, _⟩ := h
    rfl
  · obtain ⟨F, as, z, tss, rfl, eF, Fas, ia, zl, g, q⟩ := h
    refine ⟨_, (pss_cons (ps_for PassesOwn.never rfl (pi_listK K rfl (pe_revLK K rfl (pv 0))) (pg_name (i := 1) sc_law_fitting.nd rfl (Or.inl rfl))
        (pss_one (ps_for PassesOwn.never rfl (pi_range3 (by rfl) T.m_range (pa_cons (pe_op op_sub (pe_callB (call_lenK K rfl) (by rfl) T.m_len (by decide +kernel) (pa_cons (pv 1) pa_nil)) pe_int) (pa_cons (pe_un un_neg pe_int) (pa_cons (pe_un un_neg pe_int) pa_nil)))) (pg_name (i := 2) sc_law_fitting.nd rfl (Or.inl rfl))
            (pss_one (ps_if (PW.pt (pw_and (pt_cmpR op_gt (pe_callB call_len_str (by rfl) T.m_len (by decide +kernel) (pa_cons (pe_call G_law_pattern (hr.mono (by decide)) (by rfl) T.g_law_pattern T.F_law_pattern.kp T.b_law_pattern .nil pass0 (pa_cons (pv 0) pa_nil)) pa_nil)) pe_int (nomark _)) (pw_and1 (pt_cmpR op_eq (pe_ix ix_str (pe_ix (ix_listK K rfl) (pv 1) (pv 2) (fun _ _ => rfl)) pe_int (fun _ _ => rfl)) pe_str (nomark _)))))
                (pss_one (ps_asg (pe_op op_add_str (pe_ix ix_str (pe_ix (ix_listK K rfl) (pv 1) (pv 2) (fun _ _ => rfl)) pe_int (fun _ _ => rfl)) (pe_slice sl_str (pe_ix (ix_listK K rfl) (pv 1) (pv 2) (fun _ _ => rfl)) (po_some (pe_op op_add (pe_m1 PySem.F.slot_str_find PySem.F.type_str_find mt_find (pe_ix (ix_listK K rfl) (pv 1) (pv 2) (fun _ _ => rfl)) pe_str) pe_int)) po_none)) (pg_sub (pv 1) (pv 2) set_list)))
                pss_nil)))))
      (pss_one (ps_ret (pv 0)))), ?_⟩
    have asN : ∀ b ∈ as, H b ≠ none := fun b hb e => by
      obtain ⟨k, hk⟩ := List.mem_iff_getElem?.mp hb
      have hk' := (List.getElem?_eq_some_iff.mp hk).1
      have := ia.2.2 k b _ hk (List.getElem?_eq_getElem (by rw [← ia.1]; exact hk'))
      rw [e] at this
      cases this
    refine ⟨.ref F, rfl, F, _, rfl, .inl (.inl eF), fun R nR => ?_⟩
    have sR := same_new (o := .lst (vr as).reverse) nR
    have eR : (upd H R (.lst (vr as).reverse)) R = some (.lst (vr as).reverse) := upd_same
    have Ras : R ∉ as := fun h => asN R h nR
    have ia1 := ia.same sR
    have eF1 := sR _ _ eF
    generalize upd H R (.lst (vr as).reverse) = H1 at sR eR ia1 eF1
    refine ⟨R, rfl, ⟨_, .inl (.inl eR)⟩, ?_⟩
    refine for_it (walk_list (K := K) (a := R) (xs := (vr as).reverse)) (fun i σ H' => ∃ (tss' : List (List (List Nat))) (y1 y2 : Option V), σ = [some (.ref F), y1, y2] ∧ OffA as H1 H' ∧ IsAt H' as tss' ∧ GoodT z tss' ∧ tss'.length = tss.length) ⟨tss, _, _, rfl, OffA.refl _ _, ia1, g, rfl⟩ (fun i σ H' _ hP => ?_) (fun i x σ H2 H2' hi hP hY => ?_) (fun σ H2 hP => ?_)
    · obtain ⟨_, _, _, _, o, _⟩ := hP
      exact .inl (.inl (o _ _ Ras eR))
    · obtain ⟨tss2, y1, y2, rfl, o2, ia2, g2, l2⟩ := hP
      obtain ⟨rfl, hx⟩ := hY
      obtain ⟨a, ha, rfl⟩ := List.mem_map.mp (List.mem_reverse.mp (List.mem_of_getElem? hx))
      obtain ⟨k, hk⟩ := List.mem_iff_getElem?.mp ha
      have hkl := (List.getElem?_eq_some_iff.mp hk).1
      obtain ⟨ts, hts⟩ : ∃ ts, tss2[k]? = some ts := ⟨_, List.getElem?_eq_getElem (by rw [← ia2.1]; exact hkl)⟩
      have ea := ia2.2.2 k a ts hk hts
      have t8 := g2.each (List.mem_of_getElem? hts)
      refine ⟨.ref a, rfl, a, _, rfl, .inl (.inl (.inl ea)), _, 1, rfl, rfl, 1, rfl, 1, rfl, ?_⟩
      rw [List.length_map, List.length_map]
      refine ⟨((ts.length : Nat) : Int) - 1, -1, -1, _, rfl, RgC.neg (by omega) (by omega) (by omega) (by omega), ?_⟩
      refine for_it (walk_rangeC (lo := ((ts.length : Nat) : Int) - 1) (c := -1) (n := (((ts.length : Nat) : Int) - 1 - -1).toNat)) (fun i σ H' => ∃ (tss' : List (List (List Nat))) (ts' : List (List Nat)) (y2 : Option V), σ = [some (.ref F), some (.ref a), y2] ∧ OffA as H1 H' ∧ IsAt H' as tss' ∧ GoodT z tss' ∧ tss'.length = tss.length ∧ tss'[k]? = some ts' ∧ ts'.length = ts.length) ⟨tss2, ts, _, rfl, o2, ia2, g2, l2, hts, rfl⟩ (fun _ _ _ _ _ => trivial) (fun i v σ H3 H3' hi hP hY => ?_) (fun σ H3 hP => ?_)
      · obtain ⟨tss3, ts3, y2, rfl, o3, ia3, g3, l3, hts3, tl3⟩ := hP
        obtain ⟨rfl, rfl⟩ := hY
        have hi : i < ts.length := by omega
        have ev : ((ts.length : Nat) : Int) - 1 + ((i : Nat) : Int) * -1 = ((ts.length - 1 - i : Nat) : Int) := by omega
        have hj : ts.length - 1 - i < ts3.length := by omega
        generalize ts.length - 1 - i = j at hj ev
        have htj := List.getElem?_eq_getElem hj
        have htm := List.getElem_mem hj
        generalize ts3[j] = t at htj htm
        have hm3 := List.mem_of_getElem? hts3
        obtain ⟨t20, it, hit⟩ := g3.it ts3 hm3 t htm
        have ea3 := ia3.2.2 k a ts3 hk hts3
        have eF3 := o3 _ _ Fas eF1
        have hat : ∀ {H' : Hp}, ((ts3.map tJ).map V.str)[j]? = some (V.str (tJ t)) := fun {_} => by rw [List.getElem?_map, List.getElem?_map, htj]; rfl
        have sz : (tJ t).length ≤ sizeLine := by rw [tJ_len]; exact Nat.le_trans t20 (by decide)
        refine ⟨.ref F, rfl, F, as, z, tss3, rfl, eF3, ia3, g3, fun H4 s4 => ⟨patS tss3, rfl, Nat.le_trans g3.len (by decide), _, _, rfl, rfl, _, rfl, ite2 (fun _ => ?_) (fun _ => iteF ?_)⟩⟩
        · have ea4 := s4 _ _ ea3
          obtain ⟨c0, hc0⟩ := itT_ne hit
          refine ⟨.ref a, rfl, .int (((ts.length : Nat) : Int) - 1 + ((i : Nat) : Int) * -1), rfl, a, _, (j : Int), .str (tJ t), rfl, congrArg V.int ev, .inl (.inl ea4), atI_nat (hat (H' := H4)), tJ t, 0, c0, rfl, rfl, sz, atI_nat (j := 0) hc0, rfl, _, rfl, ite2 (fun y => ?_) (fun y => ?_)⟩
          · have e91 : c0 = 91 := by
              have h := V.str.inj (of_decide_eq_true y)
              have h2 : sg c0 = sg 91 := h
              exact congrArg (fun s : Str => s.cps.getD 0 0) h2
            subst e91
            obtain ⟨s0, p, h1, h93, hidx, hpl, hl2, hit2⟩ := brk_first zl hit hc0
            refine ⟨.ref a, rfl, .int (((ts.length : Nat) : Int) - 1 + ((i : Nat) : Int) * -1), rfl, a, _, (j : Int), .str (tJ t), rfl, congrArg V.int ev, .inl (.inl ea4), atI_nat (hat (H' := H4)), tJ t, 1, s0, rfl, rfl, sz, atI_nat (j := 1) h1, ?_⟩
            refine ⟨.ref a, rfl, .int (((ts.length : Nat) : Int) - 1 + ((i : Nat) : Int) * -1), rfl, a, _, (j : Int), .str (tJ t), rfl, congrArg V.int ev, .inl (.inl ea4), atI_nat (hat (H' := H4)), ?_⟩
            refine ⟨.ref a, rfl, .int (((ts.length : Nat) : Int) - 1 + ((i : Nat) : Int) * -1), rfl, a, _, (j : Int), .str (tJ t), rfl, congrArg V.int ev, .inl (.inl ea4), atI_nat (hat (H' := H4)), ⟨_, rfl⟩, tJ t, sg 93, rfl, rfl, ?_⟩
            rw [find_sign (z := tJ t) h93]
            have hidx' : (tJ t).cps.toList.idxOf 93 = p := hidx
            rw [hidx']
            refine ⟨(p : Int), 1, rfl, rfl, (p : Int) + 1, rfl, tJ t, rfl, sz, ?_⟩
            have ec : cutS (tJ t) (some ((p : Int) + 1)) none = tJ (t.drop (p + 1)) := cut_hi t p
            rw [ec]
            have en : sg s0 ++ tJ (t.drop (p + 1)) = tJ (s0 :: t.drop (p + 1)) := tJ_app [s0] _
            refine ⟨_, _, rfl, rfl, ?_, ?_⟩
            · rw [tJ_len]
              rw [List.length_cons] at hl2
              exact Nat.le_trans (show 1 + (t.drop (p + 1)).length ≤ 100 by omega) (by decide)
            rw [en]
            have ix : ixN ((ts3.map tJ).map V.str).length (j : Int) = some j := by
              unfold ixN
              rw [if_pos (by omega), if_pos (by rw [List.length_map, List.length_map]; omega), Int.toNat_natCast]
            have gs := set_good (j := j) g3 hts3 (t := s0 :: t.drop (p + 1)) ⟨by omega, hit2⟩
            refine ⟨.ref a, rfl, .int (((ts.length : Nat) : Int) - 1 + ((i : Nat) : Int) * -1), rfl, a, _, (j : Int), j, rfl, congrArg V.int ev, ea4, ix, tss3.set k (ts3.set j (s0 :: t.drop (p + 1))), ts3.set j (s0 :: t.drop (p + 1)), _, rfl, fun b o hb eb => ?_, ?_, gs, by rw [List.length_set]; exact l3, ?_, by rw [List.length_set]; exact tl3⟩
            · rw [upd_ne (fun z : b = a => hb (by rw [z]; exact ha))]
              exact s4 _ _ (o3 _ _ hb eb)
            · have e1 : ((ts3.map tJ).map V.str).set j (V.str (tJ (s0 :: t.drop (p + 1)))) = ((ts3.set j (s0 :: t.drop (p + 1))).map tJ).map V.str := by
                rw [List.map_set, List.map_set]
              rw [e1]
              exact (ia3.same s4).set hk
            · rw [List.getElem?_set, if_pos rfl, if_pos (List.getElem?_eq_some_iff.mp hts3).1]
          · exact ⟨tss3, ts3, _, rfl, o3.trans (OffA.of s4), ia3.same s4, g3, l3, hts3, tl3⟩
        · exact ⟨tss3, ts3, _, rfl, o3.trans (OffA.of s4), ia3.same s4, g3, l3, hts3, tl3⟩
      · obtain ⟨tss3, ts3, y2, rfl, o3, ia3, g3, l3, hts3, tl3⟩ := hP
        exact ⟨tss3, _, _, rfl, o3, ia3, g3, l3⟩
    · obtain ⟨tss2, y1, y2, rfl, o2, ia2, g2, l2⟩ := hP
      exact ⟨.ref F, rfl, q H2 tss2 ((OffA.of sR).trans o2) ia2 g2 l2⟩
end
end LH

namespace LH
open PySem PySem.Spec PyProof.Rows L2 NdefX LamX LU
theorem flat_sum {n : Nat} : ∀ {tss : List (List (List Nat))}, (∀ ts ∈ tss, ∀ t ∈ ts, t.length ≤ n) → ((tss.map List.flatten).map List.length).sum ≤ (tss.map List.length).sum * n
  | [], _ => Nat.zero_le _
  | ts :: r, h => by
    have h1 := flat_sum (tss := r) fun us hus => h us (List.mem_cons_of_mem _ hus)
    have h2 := flat_len (h ts List.mem_cons_self)
    rw [List.map_cons, List.map_cons, List.sum_cons, List.map_cons, List.sum_cons, Nat.add_mul]
    omega
theorem GoodT.len2 {z : List Nat} {tss : List (List (List Nat))} (g : GoodT z tss) : (patS tss).length ≤ 1000 := by
  unfold patS
  rw [TL.join_eq, join_lenB]
  have h1 := flat_sum (n := 20) fun ts hts t ht => (g.it ts hts t ht).1
  have e : (((tss.map List.flatten).map tJ).map (fun x : Str => x.length)) = (tss.map List.flatten).map List.length := by
    rw [List.map_map]
    exact List.map_congr_left fun u _ => tJ_len u
  have h2 := g.few
  have h3 := g.sum
  have h124 : (tJ [124]).length = 1 := rfl
  rw [h124, List.length_map, List.length_map, e]
  omega
theorem patW_good {z : Str} {tss : List (List (List Nat))} (g : GoodT z.cps.toList tss) (ne : tss ≠ []) : PatW z (patS tss) := by
  obtain ⟨brs, l, m, b⟩ := brs_of fun ts hts t ht => (g.it ts hts t ht).2
  refine ⟨brs, fun e => ne (List.eq_nil_of_length_eq_zero (by rw [← l, e]; rfl)), by rw [m]; exact g.sum, by rw [l]; exact g.few, ⟨tss.map List.flatten, rfl, by rw [List.length_map, l], fun j br t x y => ?_⟩, g.len2⟩
  rw [List.getElem?_map] at y
  obtain ⟨ts, hts, rfl⟩ := Option.map_eq_some_iff.mp y
  obtain ⟨b1, b2⟩ := b j br ts x hts
  have hm := List.mem_of_getElem? hts
  refine ⟨fun e => g.ne ts hm (List.eq_nil_of_length_eq_zero (by rw [← b1, e]; rfl)), b2, ?_⟩
  have := g.flat hm
  omega
theorem last_cut {t : List Nat} (h : 1 ≤ t.length) : cutS (tJ t) none (some (-1)) = tJ t.dropLast := by
  unfold cutS
  have e1 : HT.sIx (tJ t).length 0 none = 0 := rfl
  have e2 : HT.sIx (tJ t).length (tJ t).length (some (-1)) = t.length - 1 := by
    rw [tJ_len]
    show (if (-1 : Int) < 0 then ((-1 : Int) + (t.length : Int)).toNat else min (-1 : Int).toNat t.length) = t.length - 1
    rw [if_pos (by decide)]
    omega
  rw [e1, e2, List.drop_zero, Nat.sub_zero, List.dropLast_eq_take]
/-- an item that ends with a star, without it -/
theorem star_off {z : List Nat} (zl : ∀ c ∈ z, 97 ≤ c ∧ c ≤ 122) {i : Itm} {t : List Nat} (h : ItT z i t) (h0 : t.getLast? = some 42) : 1 ≤ t.length ∧ ∃ j, ItT z j t.dropLast := by
  obtain ⟨hm, hd, q, rfl⟩ := h
  have ne : ∃ c, hd.getLast? = some c ∧ c ≠ 42 := by
    generalize i.s = s at q
    cases q with
    | dot _ => exact ⟨46, rfl, by decide⟩
    | @one c hc => exact ⟨c, rfl, by have := zl c hc; omega⟩
    | brk _ _ _ => exact ⟨93, by rw [List.getLast?_append]; rfl, by decide⟩
  obtain ⟨c, hc, h42⟩ := ne
  by_cases m0 : i.m = 0
  · have e : mkI i.m = [] := by unfold mkI; rw [if_pos m0]
    rw [e, List.append_nil, hc] at h0
    exact absurd (Option.some.inj h0) h42
  · by_cases m1 : i.m = 1
    · have e : mkI i.m = [42] := by unfold mkI; rw [if_neg m0, if_pos m1]
      rw [e]
      refine ⟨by rw [List.length_append]; exact Nat.le_add_left _ _, ⟨i.s, 0⟩, ?_⟩
      rw [List.dropLast_concat]
      exact ⟨by show 0 ≤ 2; decide, hd, q, by unfold mkI; rw [if_pos rfl, List.append_nil]⟩
    · have e : mkI i.m = [43] := by unfold mkI; rw [if_neg m0, if_neg m1]
      rw [e, List.getLast?_append] at h0
      cases h0
theorem OffA.off {r : Addr} {as : List Addr} {H0 H H' : Hp} (fr : ∀ a ∈ as, H0 a = none) (o : Off r H0 H) (a : OffA as H H') : Off r H0 H' := fun b u n e => a b u (fun h => by
  have := fr b h
  rw [e] at this
  cases this) (o b u n e)
theorem row_neS {H : Hp} {r b : Addr} {ts : List (List Nat)} (R : RowAt H r) (ne : ts ≠ []) (e : H b = some (.lst ((ts.map tJ).map V.str))) : b ≠ r := fun z => by
  obtain ⟨ns, h, _⟩ := R
  rw [z, h] at e
  cases ts with
  | nil => exact ne rfl
  | cons t u =>
    cases ns with
    | nil => cases e
    | cons n m => cases e
theorem strOk_tJ {t : List Nat} (h : ∀ c ∈ t, c ≤ 124) : PyData.strOk (tJ t) = true := by
  unfold PyData.strOk
  simp only [Array.all_eq_true, decide_eq_true_eq]
  intro i hi
  have := h (t.toArray[i]'hi) (by simp)
  omega
theorem itT_small {z : List Nat} (zl : ∀ c ∈ z, 97 ≤ c ∧ c ≤ 122) {i : Itm} {t : List Nat} (h : ItT z i t) : ∀ c ∈ t, c ≤ 124 := by
  obtain ⟨_, hd, q, rfl⟩ := h
  have mm : ∀ c ∈ mkI i.m, c ≤ 124 := by
    unfold mkI
    by_cases h0 : i.m = 0
    · rw [if_pos h0]
      exact fun c h => nomatch h
    · rw [if_neg h0]
      by_cases h1 : i.m = 1
      · rw [if_pos h1]
        decide
      · rw [if_neg h1]
        decide
  intro c hc
  rcases List.mem_append.mp hc with hc | hc
  · generalize i.s = s at q
    cases q with
    | dot _ =>
      rw [List.mem_singleton.mp hc]
      decide
    | one h =>
      rw [List.mem_singleton.mp hc]
      have := zl _ h
      omega
    | brk _ _ hs =>
      rw [List.cons_append] at hc
      rcases List.mem_cons.mp hc with rfl | hc
      · decide
      · rcases List.mem_append.mp hc with hc | hc
        · have := zl c (hs c hc)
          omega
        · rw [List.mem_singleton.mp hc]
          decide
  · exact mm c hc
theorem four_mk {g : Int} (h0 : 0 ≤ g) (h1 : g < 4) : ∃ m : Nat, atI [V.str "", V.str "*", V.str "+", V.str ""] g = some (.str (tJ (mkI m))) ∧ m ≤ 2 := by
  have : g = 0 ∨ g = 1 ∨ g = 2 ∨ g = 3 := by omega
  rcases this with rfl | rfl | rfl | rfl
  · exact ⟨0, by decide +kernel, by decide⟩
  · exact ⟨1, by decide +kernel, by decide⟩
  · exact ⟨2, by decide +kernel, by decide⟩
  · exact ⟨0, by decide +kernel, by decide⟩
theorem mkI_len (m : Nat) : (mkI m).length ≤ 1 := by
  unfold mkI
  by_cases h0 : m = 0
  · rw [if_pos h0]
    decide
  · rw [if_neg h0]
    by_cases h1 : m = 1
    · rw [if_pos h1]
      decide
    · rw [if_neg h1]
      decide
section
variable {P : Program} {w : World} {K : PySem.W.Frag} {mg : Str → Option Value} {base : Heap}
/-! ### _law_branches -/
def sp_law_branches : Sp := fun vs H Q _ => ∃ (r : Addr) (z : Str), vs = [.ref r, .str z] ∧ RowAt H r ∧ IsLet z ∧ ∀ H' F as tss, Off r H H' → RowAt H' r → F ≠ r → r ∉ as → H' F = some (.lst (vr as)) → IsAt H' as tss → GoodT z.cps.toList tss → tss ≠ [] → Q (.ref F) H'
theorem ok_law_branches (T : TX K mg) : FnOk P w K mg base CX0 3 T.a_law_branches T.fd_law_branches ["draws", "letters"] sp_law_branches := by
  have G_law_take : FnOk P w K mg base CX0 1 T.a_law_take T.fd_law_take ["draws", "many"] sp_law_take := ok_law_take T
  have G_law_some : FnOk P w K mg base CX0 2 T.a_law_some T.fd_law_some ["draws", "letters"] sp_law_some := ok_law_some T
  have G_law_fitting : FnOk P w K mg base CX0 2 T.a_law_fitting T.fd_law_fitting ["found"] sp_law_fitting := ok_law_fitting T
  refine T.F_law_branches.ok sc_law_branches (fun vs H Q E h => ?_) (fun cdv A outer s H vs Q E hr h => ?_)
  · obtain ⟨r, z, rfl, _⟩ := h
    rfl
  · obtain ⟨r, z, rfl, hR, hz, q⟩ := h
    refine ⟨_, (pss_cons (ps_set (i := 2) sc_law_branches.nd rfl (Or.inl rfl) (pe_ix (ix_listK K rfl) (pe_lst (pa_cons pe_int (pa_cons pe_int (pa_cons pe_int (pa_cons (pe_op op_add pe_int (pe_call G_law_take (hr.mono (by decide)) (by rfl) T.g_law_take T.F_law_take.kp T.b_law_take .nil pass0 (pa_cons (pv 0) (pa_cons pe_int pa_nil)))) pa_nil))))) (pe_call G_law_take (hr.mono (by decide)) (by rfl) T.g_law_take T.F_law_take.kp T.b_law_take .nil pass0 (pa_cons (pv 0) (pa_cons pe_int pa_nil))) (fun _ _ => rfl)))
      (pss_cons (ps_set (i := 3) sc_law_branches.nd rfl (Or.inl rfl) pe_int)
      (pss_cons (ps_set (i := 4) sc_law_branches.nd rfl (Or.inl rfl) (pe_lst pa_nil))
      (pss_cons (ps_for PassesOwn.never rfl (pi_range1 (by rfl) T.m_range (pa_cons (pv 2) pa_nil)) (pg_name (i := 5) sc_law_branches.nd rfl (Or.inl rfl))
        (pss_cons (ps_set (i := 6) sc_law_branches.nd rfl (Or.inl rfl) (pe_op op_add (pe_op op_add (pe_op op_sub (pv 3) (pv 2)) (pv 5)) pe_int))
          (pss_cons (ps_set (i := 7) sc_law_branches.nd rfl (Or.inl rfl) (pe_lst pa_nil))
          (pss_cons (ps_for PassesOwn.never rfl (pi_range1 (by rfl) T.m_range (pa_cons (pe_op op_add pe_int (pe_call G_law_take (hr.mono (by decide)) (by rfl) T.g_law_take T.F_law_take.kp T.b_law_take .nil pass0 (pa_cons (pv 0) (pa_cons (pe_ix (ix_listK K rfl) (pe_lst (pa_cons (pe_callB (call_min2 rfl) (by rfl) T.m_min (by decide +kernel) (pa_cons pe_int (pa_cons (pv 6) pa_nil))) (pa_cons (pv 6) pa_nil))) (pe_call G_law_take (hr.mono (by decide)) (by rfl) T.g_law_take T.F_law_take.kp T.b_law_take .nil pass0 (pa_cons (pv 0) (pa_cons pe_int pa_nil))) (fun _ _ => rfl)) pa_nil)))) pa_nil)) (pg_name (i := 8) sc_law_branches.nd rfl (Or.inl rfl))
            (pss_cons (ps_set (i := 9) sc_law_branches.nd rfl (Or.inl rfl) (pe_call G_law_take (hr.mono (by decide)) (by rfl) T.g_law_take T.F_law_take.kp T.b_law_take .nil pass0 (pa_cons (pv 0) (pa_cons pe_int pa_nil))))
              (pss_cons (ps_set (i := 10) sc_law_branches.nd rfl (Or.inl rfl) (pe_ix ix_str (pv 1) (pe_call G_law_take (hr.mono (by decide)) (by rfl) T.g_law_take T.F_law_take.kp T.b_law_take .nil pass0 (pa_cons (pv 0) (pa_cons (pe_callB call_len_str (by rfl) T.m_len (by decide +kernel) (pa_cons (pv 1) pa_nil)) pa_nil))) (fun _ _ => rfl)))
              (C8.pss_cut (ps_if (pt_cmpR op_eq (pv 9) pe_int (nomark _))
                (pss_one (ps_set (i := 10) sc_law_branches.nd rfl (Or.inl rfl) pe_str))
                pss_nil)
              (C8.pss_cut (ps_if (pt_cmpR op_gt (pv 9) pe_int (nomark _))
                (pss_one (ps_set (i := 10) sc_law_branches.nd rfl (Or.inl rfl) (pe_op op_add_str (pe_op op_add_str pe_str (pe_call G_law_some (hr.mono (by decide)) (by rfl) T.g_law_some T.F_law_some.kp T.b_law_some .nil pass0 (pa_cons (pv 0) (pa_cons (pv 1) pa_nil)))) pe_str)))
                pss_nil)
              (pss_one (ps_expr (pe_bmK K rfl PySem.F.plainAttrs_list PySem.F.slot_list_append PySem.F.type_list_append mt_append (pv 7) (pa_cons (pe_op op_add_str (pv 10) (pe_ix (ix_listK K rfl) (pe_lst (pa_cons pe_str (pa_cons pe_str (pa_cons pe_str (pa_cons pe_str pa_nil))))) (pe_call G_law_take (hr.mono (by decide)) (by rfl) T.g_law_take T.F_law_take.kp T.b_law_take .nil pass0 (pa_cons (pv 0) (pa_cons pe_int pa_nil))) (fun _ _ => rfl))) pa_nil)))))))))
          (C8.pss_cut (ps_if (pt_cmpR (op_eqD hr.units) (pe_lc (own := [("item", 11)]) (g := gName 11) (by rfl) sc_law_branches.nd (pi_listK K rfl (pv 7)) (blkOk_by (own := [("item", 11)]) (N := N_law_branches) (by kernel_rfl)) (fun _ _ _ _ _ => (pg_name (i := 11) sc_law_branches.nd rfl (by first | exact Or.inl rfl | exact Or.inr rfl))) (fun _ _ _ _ _ => (pts_one (pt_cmpR op_ne (pe_ix ix_str (pv 11) (pe_un un_neg pe_int) (fun _ _ => rfl)) pe_str (nomark _)))) (fun _ _ _ _ _ => (pv 11))) (pe_lst pa_nil) (nomark _))
            (pss_one (ps_asg (pe_slice sl_str (pe_ix (ix_listK K rfl) (pv 7) pe_int (fun _ _ => rfl)) po_none (po_some (pe_un un_neg pe_int))) (pg_sub (pv 7) pe_int set_list)))
            pss_nil)
          (pss_cons (ps_set (i := 3) sc_law_branches.nd rfl (Or.inl rfl) (pe_op op_sub (pv 3) (pe_callB (call_lenK K rfl) (by rfl) T.m_len (by decide +kernel) (pa_cons (pv 7) pa_nil))))
          (pss_one (ps_expr (pe_bmK K rfl PySem.F.plainAttrs_list PySem.F.slot_list_append PySem.F.type_list_append mt_append (pv 4) (pa_cons (pv 7) pa_nil))))))))))
      (pss_one (ps_ret (pe_call G_law_fitting (hr.mono (by decide)) (by rfl) T.g_law_fitting T.F_law_fitting.kp T.b_law_fitting .nil pass0 (pa_cons (pv 4) pa_nil)))))))), ?_⟩
    have h1 := hz.one
    have h5 := hz.five
    have lz : z.length ≤ sizeLine := Nat.le_trans h5 (by decide)
    have zl : z.cps.toList.length = z.length := Array.length_toList
    have rin : ∃ o, H r = some o := by
      obtain ⟨ns, h, _⟩ := hR
      exact ⟨_, h⟩
    obtain ⟨orr, hor⟩ := rin
    -- many
    refine ⟨.ref r, rfl, r, 8, rfl, hR, by decide, by decide, fun H1 g o1 R1 g0 g1 => ⟨1, g, rfl, rfl, by show 4 ≤ sizeLine; decide, fun L nL => ?_⟩⟩
    have eL : (upd H1 L (.lst [V.int 1, .int 2, .int 3, .int (1 + g)])) L = some (.lst [V.int 1, .int 2, .int 3, .int (1 + g)]) := upd_same
    have rL : r ≠ L := R1.ne nL
    have R2 := R1.new (o := .lst [V.int 1, .int 2, .int 3, .int (1 + g)]) nL
    have o2 : Off r H (upd H1 L (.lst [V.int 1, .int 2, .int 3, .int (1 + g)])) := o1.mut (o1.free rL nL)
    generalize upd H1 L (.lst [V.int 1, .int 2, .int 3, .int (1 + g)]) = H2 at eL R2 o2
    refine ⟨.ref r, rfl, r, 4, rfl, R2, by decide, by decide, fun H3 g2 o3 R3 a0 a1 => ?_⟩
    obtain ⟨m, em, m1, m8⟩ : ∃ m : Nat, atI [V.int 1, .int 2, .int 3, .int (1 + g)] g2 = some (.int (m : Int)) ∧ 1 ≤ m ∧ m ≤ 8 := by
      have : g2 = 0 ∨ g2 = 1 ∨ g2 = 2 ∨ g2 = 3 := by omega
      rcases this with rfl | rfl | rfl | rfl
      · exact ⟨1, rfl, by decide, by decide⟩
      · exact ⟨2, rfl, by decide, by decide⟩
      · exact ⟨3, rfl, by decide, by decide⟩
      · refine ⟨(1 + g).toNat, ?_, by omega, by omega⟩
        show some (V.int (1 + g)) = _
        rw [Int.toNat_of_nonneg (by omega)]
    have o03 := o2.trans o3
    refine ⟨L, _, g2, .int (m : Int), rfl, rfl, .inl (.inl (o3 _ _ rL.symm eL)), em, ?_⟩
    refine ⟨by show 0 ≤ sizeLine; decide, fun F nF => ?_⟩
    have rF : r ≠ F := R3.ne nF
    have nFH : H F = none := o03.free rF nF
    have eF : (upd H3 F (.lst [])) F = some (.lst (vr [])) := upd_same
    have R4 := R3.new (o := .lst []) nF
    have o4 : Off r H (upd H3 F (.lst [])) := o03.mut nFH
    generalize upd H3 F (.lst []) = H4 at eF R4 o4
    refine ⟨.int (m : Int), rfl, (m : Int), rfl, by omega, by omega, ?_⟩
    refine for_range (lo := 0) (n := ((m : Nat) : Int).toNat) (fun k σ H' => ∃ (as : List Addr) (tss : List (List (List Nat))) (left : Int) (y5 y6 y7 y8 y9 y10 : Option V), σ = [some (.ref r), some (.str z), some (.int (m : Int)), some (.int left), some (.ref F), y5, y6, y7, y8, y9, y10, none] ∧ RowAt H' r ∧ Off r H H' ∧ H' F = some (.lst (vr as)) ∧ F ∉ as ∧ (∀ a ∈ as, H a = none) ∧ IsAt H' as tss ∧ tss.length = k ∧ left = 8 - (((tss.map List.length).sum : Nat) : Int) ∧ (m : Int) - (k : Int) ≤ left ∧ (∀ ts ∈ tss, ts ≠ []) ∧ ∀ ts ∈ tss, ∀ t ∈ ts, t.length ≤ 20 ∧ ∃ i, ItT z.cps.toList i t) ⟨[], [], 8, _, _, _, _, _, _, rfl, R4, o4, eF, (fun h => nomatch h), (fun a h => nomatch h), ⟨rfl, List.nodup_nil, fun k a ts x => by simp at x⟩, rfl, rfl, by omega, (fun ts h => nomatch h), (fun ts h => nomatch h)⟩ (fun k σ H5 hk hW => ?_) (fun σ H5 hW => ?_)
    · obtain ⟨as, tss, left, y5, y6, y7, y8, y9, y10, rfl, R5, o5, eF5, Fas, fr, ia, tl, el, lk, tne, tit⟩ := hW
      have hk : k < m := by omega
      have e0 : (0 + (k : Int)) = (k : Int) := Int.zero_add _
      rw [e0]
      have sum8 : ((tss.map List.length).sum : Nat) ≤ 8 := by omega
      refine ⟨.int left, rfl, .int (m : Int), rfl, left, (m : Int), rfl, rfl, .int (k : Int), rfl, _, (k : Int), rfl, rfl, _, 1, rfl, rfl, ?_⟩
      obtain ⟨mo, emo⟩ : ∃ mo : Nat, left - (m : Int) + (k : Int) + 1 = (mo : Int) := ⟨(left - (m : Int) + (k : Int) + 1).toNat, by omega⟩
      have mo1 : 1 ≤ mo := by omega
      have mo8 : mo ≤ 8 := by omega
      show gName 6 (V.int (left - (m : Int) + (k : Int) + 1)) _ _ _
      rw [emo]
      refine ⟨by show 0 ≤ sizeLine; decide, fun I nI => ?_⟩
      have rI : r ≠ I := R5.ne nI
      have nIH : H I = none := o5.free rI nI
      have FI : F ≠ I := ne_of_none eF5 nI
      have Ias : I ∉ as := fun h => by
        obtain ⟨j, hj⟩ := List.mem_iff_getElem?.mp h
        have hj' := (List.getElem?_eq_some_iff.mp hj).1
        have := ia.2.2 j I _ hj (List.getElem?_eq_getElem (by rw [← ia.1]; exact hj'))
        rw [nI] at this
        cases this
      have ras : r ∉ as := fun h => by
        have := fr r h
        rw [hor] at this
        cases this
      have eI : (upd H5 I (.lst [])) I = some (.lst ((([] : List (List Nat)).map tJ).map V.str)) := upd_same
      have R6 := R5.new (o := .lst []) nI
      have o6 : Off r H (upd H5 I (.lst [])) := o5.mut nIH
      have eF6 := same_new (o := .lst []) nI _ _ eF5
      have ia6 := ia.same (same_new (o := .lst []) nI)
      generalize upd H5 I (.lst []) = H6 at eI R6 o6 eF6 ia6
      -- how many items
      refine ⟨.ref r, rfl, .int (mo : Int), rfl, 3, (mo : Int), rfl, .int (mo : Int), rfl, by show 2 ≤ sizeLine; decide, fun L2 nL2 => ?_⟩
      obtain ⟨b1, eb1, b1a, b1b⟩ : ∃ b1 : Nat, (if (mo : Int) < 3 then (mo : Int) else 3) = (b1 : Int) ∧ 1 ≤ b1 ∧ b1 ≤ mo := by
        by_cases h : (mo : Int) < 3
        · rw [if_pos h]
          exact ⟨mo, rfl, mo1, Nat.le_refl _⟩
        · rw [if_neg h]
          exact ⟨3, rfl, by decide, by omega⟩
      rw [eb1]
      have eL2 : (upd H6 L2 (.lst [V.int (b1 : Int), .int (mo : Int)])) L2 = some (.lst [V.int (b1 : Int), .int (mo : Int)]) := upd_same
      have rL2 : r ≠ L2 := R6.ne nL2
      have sL2 := same_new (o := .lst [V.int (b1 : Int), .int (mo : Int)]) nL2
      have R7 := R6.same sL2
      have o7 : Off r H (upd H6 L2 (.lst [V.int (b1 : Int), .int (mo : Int)])) := o6.mut (o6.free rL2 nL2)
      have eF7 := sL2 _ _ eF6
      have eI7 := sL2 _ _ eI
      have ia7 := ia6.same sL2
      generalize upd H6 L2 (.lst [V.int (b1 : Int), .int (mo : Int)]) = H7 at eL2 R7 o7 eF7 eI7 ia7
      refine ⟨.ref r, rfl, r, 2, rfl, R7, by decide, by decide, fun H8 g8 o8 R8 c0 c1 => ?_⟩
      obtain ⟨b2, eb2, b2a, b2b⟩ : ∃ b2 : Nat, atI [V.int (b1 : Int), .int (mo : Int)] g8 = some (.int (b2 : Int)) ∧ 1 ≤ b2 ∧ b2 ≤ mo := by
        have : g8 = 0 ∨ g8 = 1 := by omega
        rcases this with rfl | rfl
        · exact ⟨b1, rfl, b1a, b1b⟩
        · exact ⟨mo, rfl, mo1, Nat.le_refl _⟩
      refine ⟨L2, _, g8, .int (b2 : Int), rfl, rfl, .inl (.inl (o8 _ _ rL2.symm eL2)), eb2, r, (b2 : Int), rfl, R8, by omega, by omega, fun H9 g9 o9 R9 d0 d1 => ⟨1, g9, rfl, rfl, 1 + g9, rfl, by omega, by omega, ?_⟩⟩
      have keep : ∀ {b : Addr} {u : HO}, b ≠ r → H7 b = some u → H9 b = some u := fun {b u} hb e => o9 _ _ hb (o8 _ _ hb e)
      have o97 : Off r H H9 := (o7.trans o8).trans o9
      have eF9 := keep rF.symm eF7
      have eI9 := keep rI.symm eI7
      have asr : ∀ a ∈ as, a ≠ r := fun a h z => ras (z ▸ h)
      have ia9 : IsAt H9 as tss := ⟨ia7.1, ia7.2.1, fun j a ts x y => keep (asr a (List.mem_of_getElem? x)) (ia7.2.2 j a ts x y)⟩
      obtain ⟨c, ec⟩ : ∃ c : Nat, 1 + g9 = (c : Int) := ⟨(1 + g9).toNat, by omega⟩
      have c1' : 1 ≤ c := by omega
      have cmo : c ≤ mo := by omega
      rw [ec]
      -- the items
      refine for_range (lo := 0) (n := ((c : Int)).toNat) (fun j σ H' => ∃ (ts : List (List Nat)) (y8 y9 y10 : Option V), σ = [some (.ref r), some (.str z), some (.int (m : Int)), some (.int left), some (.ref F), some (.int (k : Int)), some (.int (mo : Int)), some (.ref I), y8, y9, y10, none] ∧ RowAt H' r ∧ (∀ b u, b ≠ r → b ≠ I → H9 b = some u → H' b = some u) ∧ H' I = some (.lst ((ts.map tJ).map V.str)) ∧ ts.length = j ∧ ∀ t ∈ ts, t.length ≤ 20 ∧ ∃ i, ItT z.cps.toList i t) ⟨[], _, _, _, rfl, R9, fun _ _ _ _ h => h, eI9, rfl, fun t h => nomatch h⟩ (fun j σ H10 hj hW => ?_) (fun σ H10 hW => ?_)
      · obtain ⟨ts, y8, y9, y10, rfl, R10, k10, eI10, tl10, it10⟩ := hW
        have hj : j < c := by omega
        refine ⟨.ref r, rfl, r, 6, rfl, R10, by decide, by decide, fun H11 kd o11 R11 e0 e1 => ?_⟩
        refine ⟨.str z, rfl, .ref r, rfl, .str z, rfl, z, rfl, lz, r, ((z.length : Nat) : Int), rfl, R11, by omega, by omega, fun H12 g12 o12 R12 f0 f1 => ?_⟩
        obtain ⟨a, rfl⟩ : ∃ a : Nat, g12 = (a : Int) := ⟨g12.toNat, by omega⟩
        have hg := List.getElem?_eq_getElem (l := z.cps.toList) (i := a) (by omega)
        have hin := List.getElem_mem (l := z.cps.toList) (n := a) (by omega)
        generalize z.cps.toList[a]'(by omega) = x0 at hg hin
        refine ⟨z, (a : Int), x0, rfl, rfl, lz, atI_nat hg, ?_⟩
        have zne : z.cps.toList ≠ [] := fun e => by rw [e] at hin; cases hin
        have o1012 := o11.trans o12
        -- '.'
        refine ⟨fun σ' H' => H' = H12 ∧ ∃ h : List Nat, σ' = [some (.ref r), some (.str z), some (.int (m : Int)), some (.int left), some (.ref F), some (.int (k : Int)), some (.int (mo : Int)), some (.ref I), some (.int (0 + (j : Int))), some (.int kd), some (.str (tJ h)), none] ∧ h.length ≤ 8 ∧ ∃ s, Hd z.cps.toList s h, ?_, fun σ' H' hM => ?_⟩
        · refine ⟨.int kd, rfl, rfl, _, rfl, ite2 (fun _ => ?_) (fun _ => ?_)⟩
          · exact ⟨rfl, [46], rfl, by decide, _, .dot zne⟩
          · exact ⟨rfl, [x0], rfl, by show 1 ≤ 8; decide, _, .one hin⟩
        obtain ⟨rfl, h0, rfl, hl0, s0, hd0⟩ := hM
        -- brackets
        refine ⟨fun σ' H13 => Off r H' H13 ∧ RowAt H13 r ∧ ∃ h : List Nat, σ' = [some (.ref r), some (.str z), some (.int (m : Int)), some (.int left), some (.ref F), some (.int (k : Int)), some (.int (mo : Int)), some (.ref I), some (.int (0 + (j : Int))), some (.int kd), some (.str (tJ h)), none] ∧ h.length ≤ 8 ∧ ∃ s, Hd z.cps.toList s h, ?_, fun σ' H13 hM => ?_⟩
        · refine ⟨.int kd, rfl, _, _, rfl, rfl, _, rfl, ite2 (fun _ => ?_) (fun _ => ?_)⟩
          · refine ⟨.ref r, rfl, .str z, rfl, r, z, rfl, R12, hz, fun H13 sm o13 R13 sb ne => ?_⟩
            have sml := sb.length_le
            have e1 : (Str.ofString "[" : Str) ++ tx sm ++ Str.ofString "]" = tJ (91 :: sm ++ [93]) := by
              have eb : (Str.ofString "[" : Str) = tJ [91] := by decide +kernel
              have ec : (Str.ofString "]" : Str) = tJ [93] := by decide +kernel
              rw [eb, ec]
              show tJ [91] ++ tJ sm ++ tJ [93] = _
              rw [tJ_app, tJ_app]
              rfl
            refine ⟨_, _, rfl, rfl, ?_, _, _, rfl, rfl, ?_, ?_⟩
            · rw [tx_len]
              exact Nat.le_trans (show 1 + sm.length ≤ 100 by omega) (by decide)
            · rw [sl_app, tx_len]
              exact Nat.le_trans (show 1 + sm.length + 1 ≤ 100 by omega) (by decide)
            rw [e1]
            exact ⟨o13, R13, 91 :: sm ++ [93], rfl, by rw [List.length_append, List.length_cons]; show sm.length + 1 + 1 ≤ 8; omega, _, .brk ne (hz.rise.sublist sb) fun c hc => sb.subset hc⟩
          · exact ⟨Off.refl _ _, R12, h0, rfl, hl0, s0, hd0⟩
        obtain ⟨o13, R13, h, rfl, hl, s, hd⟩ := hM
        have eI13 := o13 _ _ rI.symm (o1012 _ _ rI.symm eI10)
        refine ⟨.ref I, rfl, .inl ⟨rfl, _, .inl (.inl eI13)⟩, .str (tJ h), rfl, by show 4 ≤ sizeLine; decide, fun L3 nL3 => ?_⟩
        have eL3 : (upd H13 L3 (.lst [V.str "", .str "*", .str "+", .str ""])) L3 = some (.lst [V.str "", .str "*", .str "+", .str ""]) := upd_same
        have rL3 : r ≠ L3 := R13.ne nL3
        have sL3 := same_new (o := .lst [V.str "", .str "*", .str "+", .str ""]) nL3
        have R14 := R13.same sL3
        have eI14 := sL3 _ _ eI13
        generalize upd H13 L3 (.lst [V.str "", .str "*", .str "+", .str ""]) = H14 at eL3 sL3 R14 eI14
        refine ⟨.ref r, rfl, r, 4, rfl, R14, by decide, by decide, fun H15 g15 o15 R15 p0 p1 => ?_⟩
        obtain ⟨mk, emk, mk2⟩ := four_mk p0 p1
        have eI15 := o15 _ _ rI.symm eI14
        have ml := mkI_len mk
        refine ⟨L3, _, g15, .str (tJ (mkI mk)), rfl, rfl, .inl (.inl (o15 _ _ rL3.symm eL3)), emk, _, _, rfl, rfl, by rw [tJ_len, tJ_len]; exact Nat.le_trans (show h.length + (mkI mk).length ≤ 100 by omega) (by decide), ?_⟩
        rw [tJ_app]
        refine ⟨I, _, _, rfl, rfl, eI15, by rw [List.length_map, List.length_map]; exact Nat.lt_of_le_of_lt (show ts.length ≤ 8 by omega) (by decide), ts ++ [h ++ mkI mk], _, _, _, rfl, R15.upd rI, fun b u hb hbI e => ?_, ?_, by rw [List.length_append, tl10]; rfl, fun t ht => ?_⟩
        · rw [upd_ne hbI]
          exact o15 _ _ hb (sL3 _ _ (o13 _ _ hb (o1012 _ _ hb (k10 b u hb hbI e))))
        · rw [upd_same, List.map_append, List.map_append]
          rfl
        · rcases List.mem_append.mp ht with ht | ht
          · exact it10 t ht
          · rw [List.mem_singleton.mp ht]
            exact ⟨by rw [List.length_append]; omega, ⟨s, mk⟩, mk2, h, hd, rfl⟩
      · obtain ⟨ts, y8, y9, y10, rfl, R10, k10, eI10, tl10, it10⟩ := hW
        have tl10 : ts.length = c := by omega
        have zsm : ∀ c ∈ z.cps.toList, 97 ≤ c ∧ c ≤ 122 := hz.small
        -- not all with a star
        refine ⟨fun σ' H' => σ' = [some (.ref r), some (.str z), some (.int (m : Int)), some (.int left), some (.ref F), some (.int (k : Int)), some (.int (mo : Int)), some (.ref I), y8, y9, y10, none] ∧ RowAt H' r ∧ (∀ b u, b ≠ r → b ≠ I → H10 b = some u → H' b = some u) ∧ ∃ us : List (List Nat), H' I = some (.lst ((us.map tJ).map V.str)) ∧ us.length = c ∧ ∀ t ∈ us, t.length ≤ 20 ∧ ∃ i, ItT z.cps.toList i t, ?_, fun σ' H' hM => ?_⟩
        · refine ⟨.ref I, rfl, I, rfl, ⟨_, .inl (.inl eI10)⟩, fun D nD => ?_⟩
          refine lc_it (walk_list (K := K) (a := I) (xs := (ts.map tJ).map V.str)) (fun i H' => Same H10 H' ∧ ∃ us : List (List Nat), H' D = some (.lst ((us.map tJ).map V.str)) ∧ us.length ≤ i ∧ (∀ t ∈ us, t ∈ ts) ∧ (us = [] → ∀ t ∈ ts.take i, t.getLast? = some 42)) ⟨same_new nD, [], upd_same, Nat.le_refl _, (fun t h => nomatch h), fun _ t h => nomatch h⟩ (fun i H' _ hP => .inl (.inl (hP.1 _ _ eI10))) (fun i x H11 H11' hi hP hY => ?_) (fun H11 hP => ?_)
          · obtain ⟨s11, us, eD, ul, usub, ulast⟩ := hP
            obtain ⟨rfl, hx⟩ := hY
            rw [List.length_map, List.length_map] at hi
            have ht := List.getElem?_eq_getElem hi
            have htm := List.getElem_mem hi
            generalize ts[i] = t at ht htm
            rw [List.getElem?_map, List.getElem?_map, ht] at hx
            cases hx
            obtain ⟨t20, it, hit⟩ := it10 t htm
            obtain ⟨c0, hc0⟩ := itT_ne hit
            have tne : t ≠ [] := fun e => by rw [e] at hc0; cases hc0
            obtain ⟨ti, tlast, et⟩ : ∃ ti tlast, t = ti ++ [tlast] := by
              rcases List.eq_nil_or_concat t with h | ⟨ti, tlast, h⟩
              · exact absurd h tne
              · exact ⟨ti, tlast, by rw [h, List.concat_eq_append]⟩
            refine ⟨rfl, .str (tJ t), rfl, 1, rfl, tJ t, (-1 : Int), tlast, rfl, rfl, by rw [tJ_len]; exact Nat.le_trans t20 (by decide), by show atI t (-1) = some tlast; rw [et]; exact atI_last _ _, rfl, _, rfl, ite2 (fun y => ?_) (fun y => ?_)⟩
            · refine ⟨.str (tJ t), rfl, _, eD, by rw [List.length_map, List.length_map]; exact Nat.lt_of_le_of_lt (show us.length ≤ 8 by omega) (by decide), fun b o e => ?_, us ++ [t], ?_, by rw [List.length_append]; exact Nat.succ_le_succ ul, fun u hu => ?_, fun h => ?_⟩
              · rw [upd_ne (ne_of_none e nD)]
                exact s11 _ _ e
              · rw [upd_same, List.map_append, List.map_append]
                rfl
              · rcases List.mem_append.mp hu with hu | hu
                · exact usub u hu
                · rw [List.mem_singleton.mp hu]
                  exact htm
              · exact absurd h (by simp)
            · refine ⟨s11, us, eD, by omega, usub, fun h u hu => ?_⟩
              rw [take_snoc ht] at hu
              rcases List.mem_append.mp hu with hu | hu
              · exact ulast h u hu
              · rw [List.mem_singleton.mp hu, et, List.getLast?_append]
                show some tlast = some 42
                have e42 : sg tlast = sg 42 := Classical.byContradiction fun n => y (by
                  have : decide (V.str (sg tlast) = V.str (Str.ofString "*")) = false := decide_eq_false fun h => n (V.str.inj h)
                  show (!decide (V.str (sg tlast) = V.str (Str.ofString "*"))) = true
                  rw [this]
                  rfl)
                rw [show tlast = 42 from congrArg (fun s : Str => s.cps.getD 0 0) e42]
          obtain ⟨s11, us, eD, ul, usub, ulast⟩ := hP
          rw [List.length_map, List.length_map] at ulast
          rw [List.take_of_length_le (Nat.le_refl _)] at ulast
          have oks : ∀ x ∈ us.map tJ, PyData.strOk x = true := fun x hx => by
            obtain ⟨t, ht, rfl⟩ := List.mem_map.mp hx
            obtain ⟨_, it, hit⟩ := it10 t (usub t ht)
            exact strOk_tJ (itT_small zsm hit)
          refine ⟨by show 0 ≤ sizeLine; decide, fun e ne => ?_⟩
          have se := same_new (o := .lst []) ne
          refine ⟨.list ((us.map tJ).map PyData.str), .list [], .lst (.inl (.inl (se _ _ eD))) (dpAll_str _), .lst (.inl (.inl upd_same)) .nil, shaped_strs _ oks, by decide +kernel, _, rfl, ?_⟩
          rw [eqv_nilS]
          have s12 := s11.trans se
          generalize upd H11 e (.lst []) = H12 at se s12
          have eI12 := s12 _ _ eI10
          have R12 := R10.same s12
          by_cases hus : us = []
          · refine iteT' (by rw [hus]; rfl) ?_
            have c0 : 0 < ts.length := by omega
            have ht := List.getElem?_eq_getElem c0
            have htm := List.getElem_mem c0
            generalize ts[0] = t at ht htm
            obtain ⟨t20, it, hit⟩ := it10 t htm
            obtain ⟨t1, j2, hj2⟩ := star_off zsm hit (ulast hus t htm)
            refine ⟨.ref I, rfl, I, _, 0, .str (tJ t), rfl, rfl, .inl (.inl eI12), atI_nat (j := 0) (by rw [List.getElem?_map, List.getElem?_map, ht]; rfl), 1, rfl, (-1 : Int), rfl, tJ t, rfl, by rw [tJ_len]; exact Nat.le_trans t20 (by decide), ?_⟩
            rw [last_cut t1]
            have ix : ixN ((ts.map tJ).map V.str).length 0 = some 0 := by
              unfold ixN
              rw [if_pos (by decide), if_pos (by rw [List.length_map, List.length_map]; omega)]
              rfl
            refine ⟨.ref I, rfl, I, _, 0, 0, rfl, rfl, eI12, ix, rfl, R12.upd rI, fun b u hb hbI e => ?_, ts.set 0 t.dropLast, ?_, by rw [List.length_set]; exact tl10, fun u hu => ?_⟩
            · rw [upd_ne hbI]
              exact s12 _ _ e
            · rw [upd_same, List.map_set, List.map_set]
            · rcases List.mem_or_eq_of_mem_set hu with hu | rfl
              · exact it10 u hu
              · exact ⟨by rw [List.length_dropLast]; omega, j2, hj2⟩
          · refine iteF' (by rw [decide_eq_false fun h => hus (List.map_eq_nil_iff.mp h)]) ⟨rfl, R12, fun b u _ _ e => s12 _ _ e, ts, eI12, tl10, it10⟩
        obtain ⟨rfl, R11, k11, us, eI11, ul, uit⟩ := hM
        have keep2 : ∀ {b : Addr} {u : HO}, b ≠ r → b ≠ I → H9 b = some u → H' b = some u := fun {b u} hb hbI e => k11 b u hb hbI (k10 b u hb hbI e)
        have eF11 := keep2 rF.symm FI eF9
        refine ⟨.int left, rfl, .ref I, rfl, I, _, rfl, .inl (.inl (.inl eI11)), left, _, rfl, rfl, ?_⟩
        rw [List.length_map, List.length_map, ul]
        refine ⟨.ref F, rfl, .inl ⟨rfl, _, .inl (.inl eF11)⟩, .ref I, rfl, F, _, _, rfl, rfl, eF11, by rw [List.length_map, ia.1]; exact Nat.lt_of_le_of_lt (show tss.length ≤ 8 by omega) (by decide), as ++ [I], tss ++ [us], left - (c : Int), _, _, _, _, _, _, rfl, R11.upd rF, fun b u hb e => ?_, ?_, ?_, ?_, ?_, ?_, ?_, ?_, ?_, ?_⟩
        · rw [upd_ne (ne_of_none e nFH)]
          exact keep2 hb (ne_of_none e nIH) (o97 _ _ hb e)
        · rw [upd_same, vr_snoc]
        · intro h
          rcases List.mem_append.mp h with h | h
          · exact Fas h
          · exact FI (List.mem_singleton.mp h)
        · intro a h
          rcases List.mem_append.mp h with h | h
          · exact fr a h
          · rw [List.mem_singleton.mp h]
            exact nIH
        · refine ⟨by rw [List.length_append, List.length_append, ia.1]; rfl, List.nodup_append.mpr ⟨ia.2.1, by simp, fun a ha b hb e => Ias (by rw [← List.mem_singleton.mp hb, ← e]; exact ha)⟩, fun j a ts' x y => ?_⟩
          by_cases hj : j < as.length
          · rw [List.getElem?_append_left hj] at x
            rw [List.getElem?_append_left (by rw [← ia.1]; exact hj)] at y
            have ham := List.mem_of_getElem? x
            rw [upd_ne (fun z : a = F => Fas (z ▸ ham))]
            exact keep2 (asr a ham) (fun z => Ias (z ▸ ham)) (ia9.2.2 j a ts' x y)
          · rw [List.getElem?_append_right (by omega)] at x
            rw [List.getElem?_append_right (by rw [← ia.1]; omega), ← ia.1] at y
            have e' : j - as.length = 0 := by
              cases q : j - as.length with
              | zero => rfl
              | succ k' =>
                rw [q] at x
                simp at x
            rw [e'] at x y
            cases x
            cases y
            rw [upd_ne FI.symm]
            exact eI11
        · rw [List.length_append, tl]
          rfl
        · rw [List.map_append, List.sum_append]
          show _ = 8 - (((tss.map List.length).sum + [us.length].sum : Nat) : Int)
          rw [List.sum_cons, List.sum_nil]
          omega
        · omega
        · intro ts' h
          rcases List.mem_append.mp h with h | h
          · exact tne ts' h
          · rw [List.mem_singleton.mp h]
            intro e
            rw [e] at ul
            have : ([] : List (List Nat)).length = 0 := rfl
            omega
        · intro ts' h
          rcases List.mem_append.mp h with h | h
          · exact tit ts' h
          · rw [List.mem_singleton.mp h]
            exact uit
    · obtain ⟨as, tss, left, y5, y6, y7, y8, y9, y10, rfl, R5, o5, eF5, Fas, fr, ia, tl, el, lk, tne, tit⟩ := hW
      have g : GoodT z.cps.toList tss := ⟨by omega, tne, tit⟩
      have ras : r ∉ as := fun h => by
        have := fr r h
        rw [hor] at this
        cases this
      refine ⟨.ref F, rfl, F, as, z.cps.toList, tss, rfl, eF5, Fas, ia, hz.small, g, fun H6 tss' oa ia6 g6 l6 => ?_⟩
      obtain ⟨ns, hrow, nl⟩ := R5
      refine q H6 F as tss' (oa.off fr o5) ⟨ns, oa _ _ ras hrow, nl⟩ rF.symm ras (oa _ _ Fas eF5) ia6 g6 fun e => ?_
      rw [e] at l6
      have : ([] : List (List (List Nat))).length = 0 := rfl
      omega
end
end LH

namespace LH
open PySem PySem.Spec PyProof.Rows L2 NdefX LamX LU
/-! ### the pieces of a world -/
def PcsAt (H : Hp) (p : Addr) (z sh : Str) (rs : List Rul) (t1 t2 : List (List (List Nat))) : Prop := ∃ (S : Addr) (ps : List Addr) (F1 : Addr) (as1 : List Addr) (F2 : Addr) (as2 : List Addr), H p = some (.tup [.str z, .str sh, .ref S, .ref F1, .ref F2]) ∧ H S = some (.lst (vr ps)) ∧ RulsAt H ps rs ∧ H F1 = some (.lst (vr as1)) ∧ IsAt H as1 t1 ∧ H F2 = some (.lst (vr as2)) ∧ IsAt H as2 t2
structure PcsOk (z sh : Str) (rs : List Rul) (t1 t2 : List (List (List Nat))) : Prop where
  let_ : IsLet z
  shp : sh = "row" ∨ sh = "ring"
  many : rs.length ≤ 8
  rok : ∀ R ∈ rs, R.Ok z sh
  g1 : GoodT z.cps.toList t1
  n1 : t1 ≠ []
  g2 : GoodT z.cps.toList t2
  n2 : t2 ≠ []
section
variable {P : Program} {w : World} {K : PySem.W.Frag} {mg : Str → Option Value} {base : Heap}
/-! ### _law_pieces -/
def sp_law_pieces : Sp := fun vs H Q _ => ∃ (r : Addr) (most rules : Nat), vs = [.ref r, .int (most : Int), .int (rules : Int)] ∧ RowAt H r ∧ 1 ≤ most ∧ most ≤ 5 ∧ rules ≤ 8 ∧ ∀ H' p z sh rs t1 t2, Off r H H' → RowAt H' r → PcsAt H' p z sh rs t1 t2 → PcsOk z sh rs t1 t2 → z.length ≤ most → rs.length ≤ rules → Q (.ref p) H'
theorem ok_law_pieces (T : TX K mg) : FnOk P w K mg base CX0 4 T.a_law_pieces T.fd_law_pieces ["draws", "most", "rules"] sp_law_pieces := by
  have G_law_take : FnOk P w K mg base CX0 1 T.a_law_take T.fd_law_take ["draws", "many"] sp_law_take := ok_law_take T
  have G_law_letters : FnOk P w K mg base CX0 2 T.a_law_letters T.fd_law_letters ["draws", "most"] sp_law_letters := ok_law_letters T
  have G_law_rule : FnOk P w K mg base CX0 3 T.a_law_rule T.fd_law_rule ["draws", "letters", "shape"] sp_law_rule := ok_law_rule T
  have G_law_branches : FnOk P w K mg base CX0 3 T.a_law_branches T.fd_law_branches ["draws", "letters"] sp_law_branches := ok_law_branches T
  refine T.F_law_pieces.ok sc_law_pieces (fun vs H Q E h => ?_) (fun cdv A outer s H vs Q E hr h => ?_)
  · obtain ⟨r, most, rules, rfl, _⟩ := h
    rfl
  · obtain ⟨r, most, rules, rfl, hR, m1, m5, r8, q⟩ := h
    refine ⟨_, (pss_cons (ps_set (i := 3) sc_law_pieces.nd rfl (Or.inr rfl) (pe_call G_law_letters (hr.mono (by decide)) (by rfl) T.g_law_letters T.F_law_letters.kp T.b_law_letters .nil pass0 (pa_cons (pv 0) (pa_cons (pv 1) pa_nil))))
      (pss_cons (ps_set (i := 4) sc_law_pieces.nd rfl (Or.inr rfl) (pe_ix (ix_listK K rfl) (pe_lst (pa_cons pe_str (pa_cons pe_str pa_nil))) (pe_call G_law_take (hr.mono (by decide)) (by rfl) T.g_law_take T.F_law_take.kp T.b_law_take .nil pass0 (pa_cons (pv 0) (pa_cons pe_int pa_nil))) (fun _ _ => rfl)))
      (pss_cons (ps_setLc (i := 5) (own := [("k", 6)]) (g := gName 6) (tt := tYes) (by rfl) sc_law_pieces.nd rfl rfl (sw_true rfl rfl rfl (by decide +kernel)) (pi_range1 (by rfl) T.m_range (pa_cons (pe_call G_law_take (hr.mono (by decide)) (by rfl) T.g_law_take T.F_law_take.kp T.b_law_take .nil pass0 (pa_cons (pv 0) (pa_cons (pe_op op_add (pv 2) pe_int) pa_nil))) pa_nil)) (blkOk_by (own := [("k", 6)]) (N := N_law_pieces) (by kernel_rfl)) (fun _ _ _ _ _ => (pg_name (i := 6) sc_law_pieces.nd rfl (by first | exact Or.inl rfl | exact Or.inr rfl))) (fun _ _ _ _ _ => pts_nil) (fun _ _ _ _ _ => (pe_call G_law_rule (hr.mono (by decide)) (by rfl) T.g_law_rule T.F_law_rule.kp T.b_law_rule .nil pass0 (pa_cons (pv 0) (pa_cons (pv 3) (pa_cons (pv 4) pa_nil))))))
      (pss_one (ps_ret (pe_tup (pa_cons (pv 3) (pa_cons (pv 4) (pa_cons (pv 5) (pa_cons (pe_call G_law_branches (hr.mono (by decide)) (by rfl) T.g_law_branches T.F_law_branches.kp T.b_law_branches .nil pass0 (pa_cons (pv 0) (pa_cons (pv 3) pa_nil))) (pa_cons (pe_call G_law_branches (hr.mono (by decide)) (by rfl) T.g_law_branches T.F_law_branches.kp T.b_law_branches .nil pass0 (pa_cons (pv 0) (pa_cons (pv 3) pa_nil))) pa_nil))))))))))), ?_⟩
    refine ⟨.ref r, rfl, .int (most : Int), rfl, r, most, rfl, hR, m1, m5, fun H1 z o1 R1 hz hzm => ?_⟩
    refine ⟨by show 2 ≤ sizeLine; decide, fun L nL => ?_⟩
    have eL : (upd H1 L (.lst [V.str "row", .str "ring"])) L = some (.lst [V.str "row", .str "ring"]) := upd_same
    have rL : r ≠ L := R1.ne nL
    have R2 := R1.new (o := .lst [V.str "row", .str "ring"]) nL
    have o2 : Off r H (upd H1 L (.lst [V.str "row", .str "ring"])) := o1.mut (o1.free rL nL)
    generalize upd H1 L (.lst [V.str "row", .str "ring"]) = H2 at eL R2 o2
    refine ⟨.ref r, rfl, r, 2, rfl, R2, by decide, by decide, fun H3 g o3 R3 g0 g1 => ?_⟩
    obtain ⟨sh, esh, hsh⟩ := two_str (a := "row") (b := "ring") g0 g1
    refine ⟨L, _, g, .str sh, rfl, rfl, .inl (.inl (o3 _ _ rL.symm eL)), esh, ?_⟩
    have o13 := o2.trans o3
    refine ⟨.ref r, rfl, .int (rules : Int), rfl, (rules : Int), 1, rfl, rfl, r, _, rfl, R3, by omega, by omega, fun H4 g4 o4 R4 a0 a1 => ?_⟩
    obtain ⟨n, rfl⟩ : ∃ n : Nat, g4 = (n : Int) := ⟨g4.toNat, by omega⟩
    have o14 := o13.trans o4
    refine ⟨(n : Int), rfl, by omega, by omega, fun S nS => ?_⟩
    have rS : r ≠ S := R4.ne nS
    have nSH : H S = none := o14.free rS nS
    refine lc_range (lo := 0) (n := ((n : Nat) : Int).toNat) (fun i H' => Off r H H' ∧ RowAt H' r ∧ ∃ ps rs, H' S = some (.lst (vr ps)) ∧ ps.length = i ∧ RulsAt H' ps rs ∧ ∀ R ∈ rs, R.Ok z sh) ⟨o14.mut nSH, R4.new nS, [], [], upd_same, rfl, RulsAt.nil, fun R h => by cases h⟩ (fun i H7 hi hW => ?_) (fun H7 hW => ?_)
    · obtain ⟨o7, R7, ps, rs, e7, l7, ru, rok⟩ := hW
      refine ⟨rfl, lcyes ?_⟩
      refine ⟨.ref r, rfl, .str z, rfl, .str sh, rfl, r, z, sh, rfl, R7, hz, fun H9 p9 R o9 R9 hp ok9 => ?_⟩
      have e9 := o9 _ _ rS.symm e7
      have tp : Tups H7 (upd H9 S (.lst (vr ps ++ [V.ref p9]))) := (Tups.off R7 o9).trans (Tups.lst e9)
      refine ⟨_, e9, ?_, (o7.trans o9).mut nSH, R9.upd rS, ps ++ [p9], rs ++ [R], ?_, ?_, (ru.mono tp).snoc (hp.mono (Tups.lst e9)), mem_snoc rok ok9⟩
      · rw [List.length_map]
        exact sl6 _ (by omega)
      · rw [upd_same, vr_snoc]
      · rw [List.length_append, l7]
        rfl
    · obtain ⟨o7, R7, ps, rs, e7, l7, ru, rok⟩ := hW
      rw [Int.toNat_natCast] at l7
      refine ⟨.str z, rfl, .str sh, rfl, .ref S, rfl, .ref r, rfl, .str z, rfl, r, z, rfl, R7, hz, fun H8 F1 as1 t1 o8 R8 F1r ras1 eF1 ia1 g1' n1 => ?_⟩
      refine ⟨.ref r, rfl, .str z, rfl, r, z, rfl, R8, hz, fun H9 F2 as2 t2 o9 R9 F2r ras2 eF2 ia2 g2' n2 => ?_⟩
      refine ⟨by show 5 ≤ sizeLine; decide, fun p np => ?_⟩
      have s10 := same_new (o := .tup [.str z, .str sh, .ref S, .ref F1, .ref F2]) np
      have o79 := o8.trans o9
      have o710 : Off r H7 (upd H9 p (.tup [.str z, .str sh, .ref S, .ref F1, .ref F2])) := fun b u h e => s10 _ _ (o79 _ _ h e)
      have k9 : ∀ {b : Addr} {u : HO}, b ≠ r → H8 b = some u → (upd H9 p (.tup [.str z, .str sh, .ref S, .ref F1, .ref F2])) b = some u := fun {b u} h e => s10 _ _ (o9 _ _ h e)
      refine q _ p z sh rs t1 t2 (fun b u h e => o710 _ _ h (o7 _ _ h e)) (R9.same s10) ⟨S, ps, F1, as1, F2, as2, upd_same, o710 _ _ rS.symm e7, ru.mono ((Tups.off R7 o79).trans (Tups.same s10)), k9 F1r eF1, ⟨ia1.1, ia1.2.1, fun k a ts x y => k9 (fun z => ras1 (z ▸ List.mem_of_getElem? x)) (ia1.2.2 k a ts x y)⟩, s10 _ _ eF2, ia2.same s10⟩ ⟨hz, hsh, by rw [← ru.1, l7]; omega, rok, g1', n1, g2', n2⟩ hzm (by have := ru.1; omega)
/-! ### _law_world -/
def sp_law_world : Sp := fun vs H Q _ => ∃ (p : Addr) (z sh : Str) (rs : List Rul) (t1 t2 : List (List (List Nat))), vs = [.ref p] ∧ PcsAt H p z sh rs t1 t2 ∧ PcsOk z sh rs t1 t2 ∧ ∀ H' a, Same H H' → WdAt H' a ⟨z, sh, rs, patS t1, patS t2⟩ → Wd.Ok ⟨z, sh, rs, patS t1, patS t2⟩ → Q (.ref a) H'
theorem ok_law_world (T : TX K mg) : FnOk P w K mg base CX0 2 T.a_law_world T.fd_law_world ["pieces"] sp_law_world := by
  have G_law_pattern : FnOk P w K mg base CX0 1 T.a_law_pattern T.fd_law_pattern ["branches"] sp_law_pattern := ok_law_pattern T
  refine T.F_law_world.ok sc_law_world (fun vs H Q E h => ?_) (fun cdv A outer s H vs Q E hr h => ?_)
  · obtain ⟨p, z, sh, rs, t1, t2, rfl, _⟩ := h
    rfl
  · obtain ⟨p, z, sh, rs, t1, t2, rfl, hp, ok, q⟩ := h
    obtain ⟨S, ps, F1, as1, F2, as2, ep, eS, ru, eF1, ia1, eF2, ia2⟩ := hp
    refine ⟨_, (pss_cons (ps_asg (pv 0) (pg_tupK (n := 5) K rfl (by rfl) (pgs_cons (pg_name (i := 1) sc_law_world.nd rfl (Or.inl rfl)) (pgs_cons (pg_name (i := 2) sc_law_world.nd rfl (Or.inl rfl)) (pgs_cons (pg_name (i := 3) sc_law_world.nd rfl (Or.inl rfl)) (pgs_cons (pg_name (i := 4) sc_law_world.nd rfl (Or.inl rfl)) (pgs_cons (pg_name (i := 5) sc_law_world.nd rfl (Or.inl rfl)) pgs_nil)))))))
      (pss_one (ps_ret (pe_tup (pa_cons (pv 1) (pa_cons (pv 2) (pa_cons (pe_callTy (call_tupleK K rfl) (by rfl) T.m_tuple (by decide +kernel) (pa_cons (pv 3) pa_nil)) (pa_cons (pe_call G_law_pattern (hr.mono (by decide)) (by rfl) T.g_law_pattern T.F_law_pattern.kp T.b_law_pattern .nil pass0 (pa_cons (pv 4) pa_nil)) (pa_cons (pe_call G_law_pattern (hr.mono (by decide)) (by rfl) T.g_law_pattern T.F_law_pattern.kp T.b_law_pattern .nil pass0 (pa_cons (pv 5) pa_nil)) pa_nil))))))))), ?_⟩
    refine ⟨.ref p, rfl, p, _, rfl, .inl (.inl ep), rfl, .str z, _, rfl, .str sh, _, rfl, .ref S, _, rfl, .ref F1, _, rfl, .ref F2, [], rfl, rfl, ?_⟩
    refine ⟨.str z, rfl, .str sh, rfl, .ref S, rfl, S, vr ps, rfl, .inl ⟨.inl (.inl eS), fun l nl => ?_⟩⟩
    have s1 := same_new (o := .tup (vr ps)) nl
    have el : (upd H l (.tup (vr ps))) l = some (.tup (vr ps)) := upd_same
    generalize upd H l (.tup (vr ps)) = H1 at s1 el
    refine ⟨.ref F1, rfl, F1, as1, z.cps.toList, t1, rfl, s1 _ _ eF1, ia1.same s1, ok.g1, fun H2 s2 => ?_⟩
    have s12 := s1.trans s2
    refine ⟨.ref F2, rfl, F2, as2, z.cps.toList, t2, rfl, s12 _ _ eF2, ia2.same s12, ok.g2, fun H3 s3 => ⟨by show 5 ≤ sizeLine; decide, fun a na => ?_⟩⟩
    have s4 := same_new (o := .tup [.str z, .str sh, .ref l, .str (patS t1), .str (patS t2)]) na
    have ru4 := ru.mono (Tups.same ((s12.trans s3).trans s4))
    exact q _ a ((s12.trans s3).trans s4) ⟨l, ps, upd_same, s4 _ _ (s3 _ _ (s2 _ _ el)), ru4.1, ru4.2⟩ ⟨ok.let_, ok.shp, ok.many, ok.rok, patW_good ok.g1 ok.n1, patW_good ok.g2 ok.n2⟩
end
end LH

namespace LH
open PySem PySem.Spec PyProof.Rows L2 NdefX LamX
/-! ### tuple * 1 is the tuple itself -/
theorem tuple_mul1 (l : Addr) (items : Array Value) (n : Nat) (dd : Option Addr) (sl : Array (Option Value)) (u : Tok) :
    Meets (Builtin.«tuple.__mul__» ⟨[.ref l, .int 1 u], []⟩) (fun _ R s => s.heap.get? l = some { cls := .type "tuple", dict := dd, data := .seq items n, slots := sl } ∧ R (.ok (.ret (Value.ref l))) s) :=
  .of_wp fun prog w A R s h => by
    obtain ⟨hp, g, d, tk, os⟩ := s
    obtain ⟨hl, h⟩ := h
    have f1 := AutoSeq1.idx_int
    have c1 : (items.isEmpty || (1 : Int) == 1) = true := by
      rw [Bool.or_eq_true]
      exact .inr rfl
    wp_walk using wpAny_loadPart' hl
    exact ⟨_, rfl, h⟩
/-- a tracked tuple times a number from 1 on -/
def rRep1 : R2 := fun x y H Q => ∃ l k xs, x = .ref l ∧ y = .int k ∧ H l = some (.tup xs) ∧ xs ≠ [] ∧ 1 ≤ k ∧ k ≤ 1000 ∧ xs.length ≤ 1000 ∧ ∀ H' p, Same H H' → H' p = some (.tup (List.replicate k.toNat xs).flatten) → Q (.ref p) H'
theorem op_rep1 {X : Cx} : OpR X (binaryOp .Mult) rRep1 := by
  intro pins s σ H x y v u Q I rx ry h
  obtain ⟨l, k, xs, rfl, rfl, hT, hne, h1, h2, hz, q⟩ := h
  by_cases hk : 2 ≤ k
  · exact op_repT pins s σ H _ _ v u Q I rx ry ⟨l, k, xs, rfl, rfl, .inl (.inl hT), hne, hk, h2, hz, fun p np => q _ p (same_new np) upd_same⟩
  · obtain rfl : k = 1 := by omega
    cases rx
    obtain ⟨t, rfl⟩ := ry
    obtain ⟨its, r, ⟨⟨cls, dd, data, sl⟩, ho, hc, n, hd⟩, hs⟩ := I.tuple (.inl (.inl hT))
    simp only at hc hd
    subst hc hd
    refine wpAny_binaryOp_repeat_ref (T := "tuple") (U := "int") (by decide) ⟨_, ho, rfl⟩ (fun s' => typeIs_int s' 1 t) noFill_tuple_mul F.fills_int_mul F.slot_int_rmul repeat_tuple F.slot_int_index.lookup
      (call_meets F.slot_int_rmul (typeIs_int s 1 t) F.entry_int_rmul (F.args_int_rmul_2 _ _) (int_rmul_tuple 1 t l its.toArray n dd sl)
        ⟨ho, rfl, ⟨_, ho, rfl⟩, call_meets F.slot_tuple_mul ⟨_, ho, rfl⟩ F.entry_tuple_mul (F.args_tuple_mul_2 _ _) (tuple_mul1 l its.toArray n dd sl t) ⟨ho, ?_⟩⟩)
    refine ⟨.ref l, H, I, rfl, q H l (fun _ _ e => e) ?_⟩
    rw [hT]
    congr 2
    show xs = (List.replicate 1 xs).flatten
    simp
end LH

namespace LH
open PySem PySem.Spec PyProof.Rows L2
theorem units65 {k : Nat} {A : Around} (hr : Room k A) : A.units + 65 < cLine := by
  have := hr.un
  omega
section
variable {X : Cx} (K : PySem.W.Frag) (hK : X.K = K)
include hK
theorem op_inDK (hu : X.A.units + 65 < cLine) : OpR X (compareOp .In) (rInD K) := by subst hK; exact op_inD hu
theorem op_notInDK (hu : X.A.units + 65 < cLine) : OpR X (compareOp .NotIn) (rNotInD K) := by subst hK; exact op_notInD hu
theorem call_dictPK (hcalm : X.calm = true) : CallR X (.type "dict") (fun xs H Q => ∃ (a : Addr) (ps : List Addr) (kvs : List (Key × V)), xs = [.ref a] ∧ SqL K H a (ps.map V.ref) ∧ Paired (fun p kv => SqT K H p [kV kv.1, kv.2]) ps kvs ∧
    ∀ p, H p = none → Q (.ref p) (upd H p (.dK (mergeK [] kvs)))) := by subst hK; exact call_dictP hcalm
end
theorem paired_at {α β : Type} {F : α → β → Prop} : ∀ {as : List α} {bs : List β}, as.length = bs.length → (∀ (i : Nat) (a : α) (b : β), as[i]? = some a → bs[i]? = some b → F a b) → Paired F as bs
  | [], [], _, _ => .nil
  | [], _ :: _, h, _ => nomatch h
  | _ :: _, [], h, _ => nomatch h
  | a :: as, b :: bs, h, q => .cons (q 0 a b rfl rfl) (paired_at (Nat.succ.inj h) fun i x y hx hy => q (i + 1) x y hx hy)
end LH

namespace LH
open PySem PySem.Spec PyProof.Rows L2
section
variable {X : Cx}
/-- tuple(text) -/
theorem call_tupS (hc : X.calm = true) : CallR X (.type "tuple") (fun xs H Q => ∃ z : Str, xs = [.str z] ∧ z.length ≤ sizeLine ∧ ∀ p, H p = none → Q (.ref p) (upd H p (.tup (sgns z)))) := by
  intro pins s σ H xs us Q I r h
  obtain ⟨z, rfl, hz, q⟩ := h
  obtain ⟨u, rfl, rx⟩ := vals1 r
  obtain ⟨t, rfl⟩ := rx
  refine PySem.call_tuple_str (I.ok.hd hc) z t (fun h' tk acc kp ha => ?_) hz
  have I2 : Inv X pins σ H { s with heap := h' } := I.kept (t' := s.toks) kp
  have e2 : acc.toList.toArray = acc := by simp
  refine ⟨.ref h'.objs.size, _, I2.laid (t' := tk) (fun b o e => Heap.get?_push_of_some _ e) (Nat.le_refl _) (show ObjOk X.prog X.w _ _ _ (.tup (sgns z)) from ⟨by rw [sgns_len]; exact hz, acc.toList, vals_sgns ha, ?_⟩), rfl, q _ (I2.hok.fresh (Nat.le_refl _))⟩
  rw [e2]
  exact ⟨_, Heap.get?_push_size _ rfl, rfl, _, rfl⟩
/-- isinstance(e, C), e the caught exception, whatever its class -/
def rIsEv (K : PySem.W.Frag) (cls : Value) (d : Option Addr) (a : Addr) : List V → Hp → VK → Prop := fun xs H Q => ∃ (D : Addr) (c : V) (cv : Value) (b : Bool), cls = .ref D ∧ d = none ∧ ExcC K D ∧ xs = [.ref a, c] ∧ (∀ u, RelV c u → u = cv) ∧ PySem.W.kitOne K (.ref D) cv = some b ∧ Q (.bl b) H
theorem call_isEv {a : Addr} {cls : Value} {d : Option Addr} {oe : Obj} {pn : List (Addr × Obj)} (hz : Zc cls d oe) (hf : ∃ vs, oe.data = .fields vs) : CallR (X.suite a ((a, oe) :: pn)) (.builtin "isinstance") (rIsEv X.K cls d a) := by
  intro pins s σ H xs us Q I r h
  obtain ⟨D, c, cv, b, rfl, rfl, C, e1, e2, e3, q⟩ := h
  exact call_isE C hz hf pins s σ H xs us Q I r ⟨c, cv, b, e1, e2, e3, q⟩
/-- isinstance(e, (C1, C2, ..)) -/
def rIsEvT (K : PySem.W.Frag) (cls : Value) (d : Option Addr) (a : Addr) : List V → Hp → VK → Prop := fun xs H Q => ∃ (D tp : Addr) (cs : List V) (ws : List Value) (b : Bool), cls = .ref D ∧ d = none ∧ ExcC K D ∧ xs = [.ref a, .ref tp] ∧ H tp = some (.tup cs) ∧ Paired ClsV cs ws ∧ PySem.W.kitAny K (.ref D) ws = some b ∧ Q (.bl b) H
theorem call_isEvT {a : Addr} {cls : Value} {d : Option Addr} {oe : Obj} {pn : List (Addr × Obj)} (hz : Zc cls d oe) (hf : ∃ vs, oe.data = .fields vs) : CallR (X.suite a ((a, oe) :: pn)) (.builtin "isinstance") (rIsEvT X.K cls d a) := by
  intro pins s σ H xs us Q I r h
  obtain ⟨D, tp, cs, ws, b, rfl, rfl, C, rfl, hT, k, e, q⟩ := h
  obtain ⟨u1, u2, rfl, r1, r2⟩ := vals2 r
  cases (show u1 = Value.ref a from r1)
  cases (show u2 = Value.ref tp from r2)
  obtain ⟨hget, _⟩ := I.pin (a, oe) (List.mem_append.mpr (.inl List.mem_cons_self))
  obtain ⟨vs, hv⟩ := hf
  have J : PySem.W.InstAt s.heap a oe D none := by
    obtain ⟨oc, od, oda, osl⟩ := oe
    obtain ⟨h1, h2⟩ := hz
    dsimp only at h1 h2 hv
    subst h1 h2 hv
    exact ⟨hget, rfl, rfl, trivial⟩
  obtain ⟨_, its, rv, o, h1, h2, n, h3⟩ := (show ObjOk (X.suite a ((a, oe) :: pn)).prog (X.suite a ((a, oe) :: pn)).w H s.heap tp (.tup cs) from I.hok tp _ hT)
  have e3 := ClsV.all k rv
  subst e3
  obtain ⟨oc, od, dt, sl⟩ := o
  simp only at h2 h3
  subst h2 h3
  exact PySem.W.kia_tup (PySem.W.handS_kitx_exc C.hg C.hk C.hs C.hd C.ha C.hn C.ht C.hm) I.kIn J h1 e (fun z => nomatch z) fun tk => ⟨.bl b, H, I.kept (t' := tk) fun _ _ z => z, rfl, q⟩
end
/-- a promise of nothing -/
theorem ok_never {P : Program} {w : World} {K : PySem.W.Frag} {mg : Str → Option Value} {base : Heap} {k : Nat} {f : Addr} {fd : FuncData} {ps : List Str} : FnOk P w K mg base CX0 k f fd ps (fun _ _ _ _ => False) := ⟨fun _ _ _ _ h => h.elim, fun _ _ _ _ _ _ _ _ _ _ _ _ _ h => h.elim⟩
end LH

namespace LH
open PySem PySem.Spec PyProof.Rows L2 NdefX LamX LU
theorem sg_injO {a b : Nat} (h : sg a = sg b) : a = b := congrArg (fun s : Str => s.cps.getD 0 0) h
theorem one_ltO {a b : Nat} : ([a] < [b]) ↔ a < b := by
  rw [List.cons_lt_cons_iff]
  constructor
  · rintro (h | ⟨_, h⟩)
    · exact h
    · exact absurd h (by decide)
  · exact .inl
/-- things that are no texts -/
inductive NStr (H : Hp) : V → Prop where
  | non : NStr H .non
  | bl (b : Bool) : NStr H (.bl b)
  | int (i : Int) : NStr H (.int i)
  | lst {a : Addr} {xs : List V} (h : H a = some (.lst xs)) : NStr H (.ref a)
  | tup {a : Addr} {xs : List V} (h : H a = some (.tup xs)) : NStr H (.ref a)
  | dk {a : Addr} {kvs : List (Key × V)} (h : H a = some (.dK kvs)) : NStr H (.ref a)
theorem NStr.same {H H' : Hp} {v : V} (h : NStr H v) (s : Same H H') : NStr H' v := by
  cases h with
  | non => exact .non
  | bl b => exact .bl b
  | int i => exact .int i
  | lst h => exact .lst (s _ _ h)
  | tup h => exact .tup (s _ _ h)
  | dk h => exact .dk (s _ _ h)
theorem NStr.ty {K : PySem.W.Frag} {H : Hp} {v : V} (h : NStr H v) : ∃ t : Value, TyX K H v t ∧ PySem.W.kitOne K t (.type "str") = some false := by
  cases h with
  | non => exact ⟨_, .base .non, kit_ty (by decide +kernel)⟩
  | bl b => exact ⟨_, .base (.bl b), kit_ty (by decide +kernel)⟩
  | int i => exact ⟨_, .base (.int i), kit_ty (by decide +kernel)⟩
  | lst h => exact ⟨_, .base (.lst h), kit_ty (by decide +kernel)⟩
  | tup h => exact ⟨_, .base (.tup h), kit_ty (by decide +kernel)⟩
  | dk h => exact ⟨_, .base (.dK h), kit_ty (by decide +kernel)⟩
abbrev Sm (c : Nat) : Prop := 97 ≤ c ∧ c ≤ 122
/-- no text of as many small letters -/
def Bad (H : Hp) (n : Nat) (v : V) : Prop := NStr H v ∨ ∃ y : List Nat, v = .str (tx y) ∧ y.length ≤ 1000 ∧ (y.length ≠ n ∨ ∃ c ∈ y, ¬ Sm c)
theorem Bad.same {H H' : Hp} {n : Nat} {v : V} (h : Bad H n v) (s : Same H H') : Bad H' n v := h.elim (fun h => .inl (h.same s)) .inr
theorem tAll_less {nm : List Nat} (h : ¬ nm.Nodup) : (tAll (nm.map sg)).length ≠ nm.length := fun e => by
  have p := perm_sub (tAll (nm.map sg)) (nm.map sg) (tAll_nodup _) (by rw [List.length_map, e]) fun x hx => mem_tAll.mp hx
  have nd : (nm.map sg).Nodup := p.symm.nodup (tAll_nodup _)
  exact h ((List.pairwise_map.mp nd).imp fun h e => h (by rw [e]))
section
variable {P : Program} {w : World} {K : PySem.W.Frag} {mg : Str → Option Value} {base : Heap}
/-! ### is_names -/
def sp_is_names : Sp := fun vs H Q _ => ∃ (z : Str) (v : V) (b : Bool), vs = [.str z, v] ∧ z.length ≤ 5 ∧ ((b = false ∧ Bad H z.length v) ∨ (b = true ∧ ∃ y : List Nat, v = .str (tx y) ∧ y.length = z.length ∧ ∀ c ∈ y, Sm c)) ∧ ∀ H', Same H H' → Q (.bl b) H'
theorem ok_is_names (T : TX K mg) : FnOk P w K mg base CX0 1 T.a_is_names T.fd_is_names ["letters", "thing"] sp_is_names := by
  refine T.F_is_names.ok sc_is_names (fun vs H Q E h => ?_) (fun cdv A outer s H vs Q E hr h => ?_)
  · obtain ⟨z, v, b, rfl, _⟩ := h
    rfl
  · obtain ⟨z, v, b, rfl, z5, hv, q⟩ := h
    refine ⟨_, (pss_one (ps_ret (pe_and (pe_callB (call_isiK K rfl) (by rfl) T.m_isinstance (by decide +kernel) (pa_cons (pv 1) (pa_cons (pe_bltn (v := .ty "str") (by rfl) T.m_str (by decide +kernel) rfl) pa_nil))) (pe_and (pe_cmpR op_eq (pe_callB call_len_str (by rfl) T.m_len (by decide +kernel) (pa_cons (pv 1) pa_nil)) (pe_callB call_len_str (by rfl) T.m_len (by decide +kernel) (pa_cons (pv 0) pa_nil)) (nomark _)) (pe_one (pe_callB (cr_allK K rfl rfl) (by rfl) T.m_all (by decide +kernel) (pa_cons (pe_lc (own := [("sign", 2)]) (g := gName 2) (tt := tYes) (by rfl) sc_is_names.nd (pi_str (pv 1)) (blkOk_by (own := [("sign", 2)]) (N := N_is_names) (by kernel_rfl)) (fun _ _ _ _ _ => (pg_name (i := 2) sc_is_names.nd rfl (by first | exact Or.inl rfl | exact Or.inr rfl))) (fun _ _ _ _ _ => pts_nil) (fun _ _ _ _ _ => (pe_chain op_le_str op_le_str pe_str (pv 2) pe_str))) pa_nil))))))), ?_⟩
    have notStr : NStr H v → b = false → _ := fun hn hb => hn.ty (K := K)
    by_cases hn : b = false ∧ NStr H v
    · obtain ⟨rfl, hn⟩ := hn
      obtain ⟨t, ht, hk⟩ := hn.ty (K := K)
      exact ⟨v, rfl, v, .ty "str", t, .type "str", false, rfl, .ty _, ht, hk, false, rfl, iteF (q _ (Same.refl _))⟩
    · clear notStr
      obtain ⟨y, rfl, yl, hy⟩ : ∃ y : List Nat, v = .str (tx y) ∧ y.length ≤ 1000 ∧ b = decide (y.length = z.length ∧ ∀ c ∈ y, Sm c) := by
        rcases hv with ⟨hb, h | ⟨y, e, yl, h⟩⟩ | ⟨hb, y, e, yl, h⟩
        · exact absurd ⟨hb, h⟩ hn
        · refine ⟨y, e, yl, ?_⟩
          rw [hb, decide_eq_false]
          rintro ⟨h1, h2⟩
          rcases h with h | ⟨c, hc, h⟩
          · exact h h1
          · exact h (h2 c hc)
        · exact ⟨y, e, by omega, by rw [hb, decide_eq_true ⟨yl, h⟩]⟩
      clear hv hn
      refine ⟨.str (tx y), rfl, .str (tx y), .ty "str", .type "str", .type "str", true, rfl, .ty _, .base (.str _), kit_ty (by decide +kernel), true, rfl, iteT ?_⟩
      refine ⟨.str (tx y), rfl, tx y, rfl, by rw [tx_len]; exact seven _ yl, .str z, rfl, z, rfl, seven _ (by omega), rfl, _, rfl, ?_⟩
      by_cases hl : y.length = z.length
      · refine iteT' (decide_eq_true (congrArg V.int (by rw [tx_len]; omega))) ?_
        refine ⟨.str (tx y), rfl, tx y, rfl, fun D nD => ?_⟩
        refine lc_it walk_str (fun i H' => Same H H' ∧ H' D = some (.lst ((y.take i).map fun c => V.bl (decide (Sm c))))) ⟨same_new nD, upd_same⟩ (fun _ _ _ _ => trivial) (fun i v H1 H1' hi hW hY => ?_) (fun H1 hW => ?_)
        · obtain ⟨s1, e1⟩ := hW
          obtain ⟨rfl, c, hc, rfl⟩ := hY
          have hc' : y[i]? = some c := by
            rw [← hc]
            exact List.getElem?_toArray.symm
          have hi' := (List.getElem?_eq_some_iff.mp hc').1
          have sz : ((y.take i).map fun c => V.bl (decide (Sm c))).length < sizeLine := by
            rw [List.length_map, List.length_take]
            exact fit6 (by omega)
          have t1 : (!decide ((sg c).cps.toList < ("a" : Str).cps.toList)) = decide (97 ≤ c) := by
            show (!decide ([c] < [97])) = _
            by_cases h : 97 ≤ c
            · rw [decide_eq_true h, decide_eq_false fun h2 => by have := one_ltO.mp h2; omega]
              rfl
            · rw [decide_eq_false h, decide_eq_true (one_ltO.mpr (by omega))]
              rfl
          have t2 : (!decide (("z" : Str).cps.toList < (sg c).cps.toList)) = decide (c ≤ 122) := by
            show (!decide ([122] < [c])) = _
            by_cases h : c ≤ 122
            · rw [decide_eq_true h, decide_eq_false fun h2 => by have := one_ltO.mp h2; omega]
              rfl
            · rw [decide_eq_false h, decide_eq_true (one_ltO.mpr (by omega))]
              rfl
          have fin : ∀ bb : Bool, bb = decide (Sm c) → some (HO.lst (((y.take i).map fun c => V.bl (decide (Sm c))) ++ [V.bl bb])) = some (HO.lst ((y.take (i + 1)).map fun c => V.bl (decide (Sm c)))) := fun bb hb => by
            rw [take_snoc hc', List.map_append, hb]
            rfl
          refine ⟨rfl, lcyes ?_⟩
          by_cases h97 : 97 ≤ c
          · refine ⟨.str (sg c), rfl, _, _, rfl, rfl, true, by rw [t1, decide_eq_true h97], iteT ?_⟩
            refine ⟨_, _, rfl, rfl, _, e1, sz, fun b o e => ?_, ?_⟩
            · rw [upd_ne (ne_of_none e nD)]
              exact s1 b o e
            · rw [upd_same, t2]
              exact fin _ (by by_cases h : c ≤ 122 <;> simp [Sm, h97, h])
          · refine ⟨.str (sg c), rfl, _, _, rfl, rfl, false, by rw [t1, decide_eq_false h97], iteF ?_⟩
            refine ⟨_, e1, sz, fun b o e => ?_, ?_⟩
            · rw [upd_ne (ne_of_none e nD)]
              exact s1 b o e
            · rw [upd_same]
              exact fin _ (by rw [decide_eq_false fun h => h97 h.1])
        · obtain ⟨s1, e1⟩ := hW
          have e3 : y.take (tx y).cps.size = y := List.take_of_length_le (by show y.length ≤ y.toArray.size; simp)
          rw [e3] at e1
          have e4 : (y.map fun c => V.bl (decide (Sm c))) = (y.map fun c => decide (Sm c)).map V.bl := by
            rw [List.map_map]
            rfl
          rw [e4] at e1
          refine ⟨D, y.map fun c => decide (Sm c), rfl, .inl (.inl e1), ?_⟩
          have ea : (y.map fun c => decide (Sm c)).all id = b := by
            rw [hy]
            by_cases h : ∀ c ∈ y, Sm c
            · rw [decide_eq_true ⟨hl, h⟩, List.all_eq_true]
              intro x hx
              obtain ⟨c, hc, rfl⟩ := List.mem_map.mp hx
              exact decide_eq_true (h c hc)
            · rw [decide_eq_false fun h2 => h h2.2]
              rw [← Bool.not_eq_true, List.all_eq_true]
              intro h2
              exact h fun c hc => of_decide_eq_true (h2 _ (List.mem_map.mpr ⟨c, hc, rfl⟩))
          rw [ea]
          exact q _ s1
      · refine iteF' (decide_eq_false fun h => hl (by have := V.int.inj h; rw [tx_len] at this; omega)) ?_
        rw [decide_eq_false fun h => hl h.1] at hy
        subst hy
        exact q _ (Same.refl _)
/-! ### renamed, coarser -/
def sp_refuse (A : Addr) (al : Bool) : Sp := fun vs H _ E => ∃ (a : Addr) (z : Str) (rest : List V) (v : V), vs = [.ref a, v] ∧ H a = some (.tup (.str z :: rest)) ∧ z.length ≤ 5 ∧ (Bad H z.length v ∨ (al = true ∧ ∃ y : List Nat, v = .str (tx y) ∧ y.length = z.length ∧ (∀ c ∈ y, Sm c) ∧ ¬ y.Nodup)) ∧ ∀ H', Same H H' → E (.ref A) none H'
theorem ok_renamed (T : TX K mg) : FnOk P w K mg base (L2.CX P w) 5 T.a_renamed T.fd_renamed ["world", "names"] (sp_refuse T.A_NoMap true) := by
  have G_is_names : FnOk P w K mg base CX0 1 T.a_is_names T.fd_is_names ["letters", "thing"] sp_is_names := ok_is_names T
  have G_mapped : FnOk P w K mg base CX0 1 T.a_mapped T.fd_mapped ["world", "names"] (fun _ _ _ _ => False) := ok_never
  refine T.F_renamed.okX sc_renamed (fun vs H Q E h => ?_) (fun cdv A outer s H vs Q E hr h => ?_)
  · obtain ⟨a, z, rest, v, rfl, _⟩ := h
    rfl
  · obtain ⟨a, z, rest, v, rfl, ea, z5, hv, q⟩ := h
    refine ⟨_, (pss_cons (ps_set (i := 2) sc_renamed.nd rfl (Or.inl rfl) (pe_ix (ix_tupK K rfl) (pv 0) pe_int (fun _ _ => rfl)))
      (pss_cons (ps_if (PW.pt (pw_or (pt_not (pt_val (pe_call G_is_names (hr.mono (by decide)) (by rfl) T.g_is_names T.F_is_names.kp T.b_is_names .nil pass0 (pa_cons (pv 2) (pa_cons (pv 1) pa_nil))))) (pw_or1 (pt_cmpR op_ne (pe_callB (cr_lenTK P w rfl rfl) (by rfl) T.m_len (by decide +kernel) (pa_cons (pe_callTy (cr_setSK P w rfl rfl rfl) (by rfl) T.m_set (by decide +kernel) (pa_cons (pv 1) pa_nil)) pa_nil)) (pe_callB call_len_str (by rfl) T.m_len (by decide +kernel) (pa_cons (pv 2) pa_nil)) (nomark _)))))
        (pss_one (ps_raise rfl (takes_of rfl rfl rfl rfl) (pmk_own PySem.F.excBase_ValueError T.e_NoMap T.x_NoMap T.k_NoMap (raises_own T.b_NoMap T.t_NoMap) (by exact rfl))))
        pss_nil)
      (pss_one (ps_ret (pe_call G_mapped (hr.mono (by decide)) (by rfl) T.g_mapped T.F_mapped.kp T.b_mapped .nil pass0 (pa_cons (pv 0) (pa_cons (pv 1) pa_nil))))))), ?_⟩
    refine ⟨.ref a, rfl, a, _, 0, .str z, rfl, rfl, .inl (.inl ea), atI_nat (j := 0) rfl, ?_⟩
    rcases hv with hb | ⟨_, y, rfl, yl, ysm, ynd⟩
    · exact ⟨.str z, rfl, v, rfl, z, v, false, rfl, z5, .inl ⟨rfl, hb⟩, fun H1 s1 => ⟨false, rfl, iteT (q _ s1)⟩⟩
    · refine ⟨.str z, rfl, .str (tx y), rfl, z, _, true, rfl, z5, .inr ⟨rfl, y, rfl, yl, ysm⟩, fun H1 s1 => ⟨true, rfl, iteF ?_⟩⟩
      have tl : (tAll ((tx y).cps.toList.map sg)).length ≠ y.length := tAll_less ynd
      have tl2 : (tAll ((tx y).cps.toList.map sg)).length ≤ y.length := by
        have := tAll_len (y.map sg)
        rw [List.length_map] at this
        exact this
      refine ⟨.str (tx y), rfl, tx y, rfl, by rw [tx_len]; omega, fun p np => ?_⟩
      refine ⟨p, _, rfl, upd_same, by omega, .str z, rfl, z, rfl, seven _ (by omega), rfl, _, rfl, iteT' ?_ (q _ (s1.trans (same_new np)))⟩
      rw [decide_eq_false fun h => tl (by have := V.int.inj h; omega)]
      rfl
theorem ok_coarser (T : TX K mg) : FnOk P w K mg base (L2.CX P w) 5 T.a_coarser T.fd_coarser ["world", "names"] (sp_refuse T.A_NoMap false) := by
  have G_is_names : FnOk P w K mg base CX0 1 T.a_is_names T.fd_is_names ["letters", "thing"] sp_is_names := ok_is_names T
  have G_mapped : FnOk P w K mg base CX0 1 T.a_mapped T.fd_mapped ["world", "names"] (fun _ _ _ _ => False) := ok_never
  refine T.F_coarser.okX sc_coarser (fun vs H Q E h => ?_) (fun cdv A outer s H vs Q E hr h => ?_)
  · obtain ⟨a, z, rest, v, rfl, _⟩ := h
    rfl
  · obtain ⟨a, z, rest, v, rfl, ea, z5, hv, q⟩ := h
    refine ⟨_, (pss_cons (ps_if (pt_not (pt_val (pe_call G_is_names (hr.mono (by decide)) (by rfl) T.g_is_names T.F_is_names.kp T.b_is_names .nil pass0 (pa_cons (pe_ix (ix_tupK K rfl) (pv 0) pe_int (fun _ _ => rfl)) (pa_cons (pv 1) pa_nil)))))
        (pss_one (ps_raise rfl (takes_of rfl rfl rfl rfl) (pmk_own PySem.F.excBase_ValueError T.e_NoMap T.x_NoMap T.k_NoMap (raises_own T.b_NoMap T.t_NoMap) (by exact rfl))))
        pss_nil)
      (pss_one (ps_ret (pe_call G_mapped (hr.mono (by decide)) (by rfl) T.g_mapped T.F_mapped.kp T.b_mapped .nil pass0 (pa_cons (pv 0) (pa_cons (pv 1) pa_nil)))))), ?_⟩
    rcases hv with hb | ⟨h, _⟩
    · exact ⟨.ref a, rfl, a, _, 0, .str z, rfl, rfl, .inl (.inl ea), atI_nat (j := 0) rfl, v, rfl, z, v, false, rfl, z5, .inl ⟨rfl, hb⟩, fun H1 s1 => ⟨false, rfl, iteT (q _ s1)⟩⟩
    · cases h
/-! ### _law_refused -/
theorem exc_is (T : TX K mg) : ExcC K T.A_NoMap := ⟨T.h1_NoMap, T.h2_NoMap, T.b_NoMap, T.h4_NoMap, T.h5_NoMap, T.h6_NoMap, T.h7_NoMap, T.h8_NoMap⟩
def sp_law_refused : Sp := fun vs H Q _ => ∃ (way : Int) (a : Addr) (z : Str) (rest : List V) (v : V), vs = [.int way, .ref a, v] ∧ H a = some (.tup (.str z :: rest)) ∧ z.length ≤ 5 ∧ (Bad H z.length v ∨ (way = 0 ∧ ∃ y : List Nat, v = .str (tx y) ∧ y.length = z.length ∧ (∀ c ∈ y, Sm c) ∧ ¬ y.Nodup)) ∧ ∀ H', Same H H' → Q (.bl true) H'
theorem ok_law_refused (T : TX K mg) : FnOk P w K mg base CX0 6 T.a_law_refused T.fd_law_refused ["way", "world", "text"] sp_law_refused := by
  have G_renamed : FnOk P w K mg base (L2.CX P w) 5 T.a_renamed T.fd_renamed ["world", "names"] (sp_refuse T.A_NoMap true) := ok_renamed T
  have G_coarser : FnOk P w K mg base (L2.CX P w) 5 T.a_coarser T.fd_coarser ["world", "names"] (sp_refuse T.A_NoMap false) := ok_coarser T
  refine T.F_law_refused.ok sc_law_refused (fun vs H Q E h => ?_) (fun cdv A outer s H vs Q E hr h => ?_)
  · obtain ⟨way, a, z, rest, v, rfl, _⟩ := h
    rfl
  · obtain ⟨way, a, z, rest, v, rfl, ea, z5, hv, q⟩ := h
    refine ⟨_, (pss_cons (ps_set (i := 3) sc_law_refused.nd rfl (Or.inl rfl) (pe_lst pa_nil))
      (pss_cons (ps_try_as (i := 4) rfl rfl sc_law_refused.nd rfl rfl ⟨rfl, by decide, .inl T.x_HandsError⟩ LamX.takes0 (fun W_ pn_ xe_ tk_ _ =>
        (pss_one (ps_if (pt_cmpR op_eq (pv 0) pe_int (nomark _))
            (pss_one (ps_expr (pe_callS G_renamed (hr.mono (by decide)) (by rfl) T.g_renamed T.F_renamed.kp T.b_renamed (fun σ => passAt tk_ σ) (pa_cons (pv 1) (pa_cons (pv 2) pa_nil)))))
            (pss_one (ps_expr (pe_callS G_coarser (hr.mono (by decide)) (by rfl) T.g_coarser T.F_coarser.kp T.b_coarser (fun σ => passAt tk_ σ) (pa_cons (pv 1) (pa_cons (pv 2) pa_nil)))))))) (fun _ _ _ _ _ hz_ hf_ =>
        (pss_cons (ps_set (i := 3) sc_law_refused.nd rfl (Or.inl rfl) (pe_lst (pa_cons (pe_callB (call_isEv hz_ hf_) (by rfl) T.m_isinstance (by decide +kernel) (pa_cons (pv 4) (pa_cons (pe_glob (v := .ref T.A_NoMap) (by rfl) T.x_NoMap rfl) pa_nil))) (pa_cons (pe_callB (call_isEv hz_ hf_) (by rfl) T.m_isinstance (by decide +kernel) (pa_cons (pv 4) (pa_cons (pe_bltn (v := .ty "ValueError") (by rfl) T.m_ValueError (by decide +kernel) rfl) pa_nil))) pa_nil))))
          (pss_one (ps_expr (pe_bmK K rfl PySem.F.plainAttrs_list PySem.F.slot_list_append PySem.F.type_list_append mt_append (pv 3) (pa_cons (pe_callB (call_isEvT hz_ hf_) (by rfl) T.m_isinstance (by decide +kernel) (pa_cons (pv 4) (pa_cons (pe_tup (pa_cons (pe_glob (v := .ref T.A_NoPattern) (by rfl) T.x_NoPattern rfl) (pa_cons (pe_glob (v := .ref T.A_NoRow) (by rfl) T.x_NoRow rfl) (pa_cons (pe_glob (v := .ref T.A_NoStory) (by rfl) T.x_NoStory rfl) (pa_cons (pe_glob (v := .ref T.A_NoWorld) (by rfl) T.x_NoWorld rfl) pa_nil))))) pa_nil))) pa_nil)))))))
      (pss_one (ps_ret (pe_cmpR (op_eqD hr.units) (pv 3) (pe_lst (pa_cons pe_bl (pa_cons pe_bl (pa_cons pe_bl pa_nil)))) (nomark _)))))), ?_⟩
    refine ⟨by show 0 ≤ sizeLine; decide, fun L0 n0 => ?_⟩
    have s0 := same_new (o := .lst []) n0
    have ea0 := s0 _ _ ea
    have exm := PySem.W.exm_ref T.c1_NoMap_HandsError T.c2_NoMap_HandsError T.c3_NoMap_HandsError T.c4_NoMap_HandsError
    refine ⟨.int way, rfl, rfl, _, rfl, ite2 (fun yy => ?_) (fun yy => ?_)⟩
    · refine ⟨.ref a, rfl, v, rfl, a, z, rest, v, rfl, ea0, z5, hv.elim (fun h => .inl (h.same s0)) (fun h => .inr ⟨rfl, h.2⟩), fun H1 s1 => ⟨true, exm, fun _ e he => ?_, fun h => nomatch h⟩⟩
      have C := exc_is T
      refine ⟨.ref e, rfl, T.A_NoMap, .ref T.A_NoMap, .ref T.A_NoMap, true, rfl, rfl, C, rfl, (fun u h => h), T.q_NoMap_NoMap, ?_⟩
      refine ⟨.ref e, rfl, T.A_NoMap, .ty "ValueError", .type "ValueError", true, rfl, rfl, C, rfl, (fun u h => h), T.q_NoMap_V, by show 2 ≤ sizeLine; decide, fun L nL => ?_⟩
      have s2 := same_new (o := .lst [V.bl true, .bl true]) nL
      have eL : (upd H1 L (.lst [V.bl true, .bl true])) L = some (.lst [V.bl true, .bl true]) := upd_same
      refine ⟨.ref L, rfl, .inl ⟨rfl, _, .inl (.inl eL)⟩, .ref e, rfl, by show 4 ≤ sizeLine; decide, fun tp ntp => ?_⟩
      have s3 := same_new (o := .tup [V.ref T.A_NoPattern, .ref T.A_NoRow, .ref T.A_NoStory, .ref T.A_NoWorld]) ntp
      refine ⟨T.A_NoMap, tp, _, [Value.ref T.A_NoPattern, .ref T.A_NoRow, .ref T.A_NoStory, .ref T.A_NoWorld], false, rfl, rfl, C, rfl, upd_same, .cons (.own _) (.cons (.own _) (.cons (.own _) (.cons (.own _) .nil))), kitAny_cons T.q_NoMap_NoPattern (fun _ => kitAny_cons T.q_NoMap_NoRow (fun _ => kitAny_cons T.q_NoMap_NoStory (fun _ => kitAny_cons T.q_NoMap_NoWorld (fun _ => kitAny_nil) (fun h => nomatch h)) (fun h => nomatch h)) (fun h => nomatch h)) (fun h => nomatch h), ?_⟩
      have eL3 := s3 _ _ eL
      refine ⟨L, _, _, rfl, rfl, eL3, by show 2 < sizeLine; decide, ?_⟩
      generalize upd (upd H1 L (.lst [V.bl true, .bl true])) tp (.tup [V.ref T.A_NoPattern, .ref T.A_NoRow, .ref T.A_NoStory, .ref T.A_NoWorld]) = H3 at s3 eL3
      refine ⟨.ref L, rfl, by show 3 ≤ sizeLine; decide, fun p np => ?_⟩
      have s5 := same_new (o := .lst [V.bl true, .bl true, .bl false]) np
      have eL5 : (upd (upd H3 L (.lst ([V.bl true, .bl true] ++ [V.bl false]))) p (.lst [V.bl true, .bl true, .bl false])) L = some (.lst [V.bl true, .bl true, .bl false]) := s5 _ _ upd_same
      have sA : Same H (upd (upd H3 L (.lst ([V.bl true, .bl true] ++ [V.bl false]))) p (.lst [V.bl true, .bl true, .bl false])) := fun b o eb => by
        refine s5 _ _ ?_
        rw [upd_ne (ne_of_none (s1 _ _ (s0 _ _ eb)) nL)]
        exact s3 _ _ (s2 _ _ (s1 _ _ (s0 _ _ eb)))
      refine ⟨.list [.bool true, .bool true, .bool false], .list [.bool true, .bool true, .bool false], .lst (.inl (.inl eL5)) (.cons (.bl _) (.cons (.bl _) (.cons (.bl _) .nil))), .lst (.inl (.inl upd_same)) (.cons (.bl _) (.cons (.bl _) (.cons (.bl _) .nil))), by decide +kernel, by decide +kernel, ?_⟩
      have ee : PyData.eqv (.list [.bool true, .bool true, .bool false]) (.list [.bool true, .bool true, .bool false]) = true := by decide +kernel
      rw [ee]
      exact q _ sA
    · have hb : Bad H z.length v := hv.elim (fun h => h) fun h => absurd (decide_eq_true (congrArg V.int h.1)) yy
      refine ⟨.ref a, rfl, v, rfl, a, z, rest, v, rfl, ea0, z5, .inl (hb.same s0), fun H1 s1 => ⟨true, exm, fun _ e he => ?_, fun h => nomatch h⟩⟩
      have C := exc_is T
      refine ⟨.ref e, rfl, T.A_NoMap, .ref T.A_NoMap, .ref T.A_NoMap, true, rfl, rfl, C, rfl, (fun u h => h), T.q_NoMap_NoMap, ?_⟩
      refine ⟨.ref e, rfl, T.A_NoMap, .ty "ValueError", .type "ValueError", true, rfl, rfl, C, rfl, (fun u h => h), T.q_NoMap_V, by show 2 ≤ sizeLine; decide, fun L nL => ?_⟩
      have s2 := same_new (o := .lst [V.bl true, .bl true]) nL
      have eL : (upd H1 L (.lst [V.bl true, .bl true])) L = some (.lst [V.bl true, .bl true]) := upd_same
      refine ⟨.ref L, rfl, .inl ⟨rfl, _, .inl (.inl eL)⟩, .ref e, rfl, by show 4 ≤ sizeLine; decide, fun tp ntp => ?_⟩
      have s3 := same_new (o := .tup [V.ref T.A_NoPattern, .ref T.A_NoRow, .ref T.A_NoStory, .ref T.A_NoWorld]) ntp
      refine ⟨T.A_NoMap, tp, _, [Value.ref T.A_NoPattern, .ref T.A_NoRow, .ref T.A_NoStory, .ref T.A_NoWorld], false, rfl, rfl, C, rfl, upd_same, .cons (.own _) (.cons (.own _) (.cons (.own _) (.cons (.own _) .nil))), kitAny_cons T.q_NoMap_NoPattern (fun _ => kitAny_cons T.q_NoMap_NoRow (fun _ => kitAny_cons T.q_NoMap_NoStory (fun _ => kitAny_cons T.q_NoMap_NoWorld (fun _ => kitAny_nil) (fun h => nomatch h)) (fun h => nomatch h)) (fun h => nomatch h)) (fun h => nomatch h), ?_⟩
      have eL3 := s3 _ _ eL
      refine ⟨L, _, _, rfl, rfl, eL3, by show 2 < sizeLine; decide, ?_⟩
      generalize upd (upd H1 L (.lst [V.bl true, .bl true])) tp (.tup [V.ref T.A_NoPattern, .ref T.A_NoRow, .ref T.A_NoStory, .ref T.A_NoWorld]) = H3 at s3 eL3
      refine ⟨.ref L, rfl, by show 3 ≤ sizeLine; decide, fun p np => ?_⟩
      have s5 := same_new (o := .lst [V.bl true, .bl true, .bl false]) np
      have eL5 : (upd (upd H3 L (.lst ([V.bl true, .bl true] ++ [V.bl false]))) p (.lst [V.bl true, .bl true, .bl false])) L = some (.lst [V.bl true, .bl true, .bl false]) := s5 _ _ upd_same
      have sA : Same H (upd (upd H3 L (.lst ([V.bl true, .bl true] ++ [V.bl false]))) p (.lst [V.bl true, .bl true, .bl false])) := fun b o eb => by
        refine s5 _ _ ?_
        rw [upd_ne (ne_of_none (s1 _ _ (s0 _ _ eb)) nL)]
        exact s3 _ _ (s2 _ _ (s1 _ _ (s0 _ _ eb)))
      refine ⟨.list [.bool true, .bool true, .bool false], .list [.bool true, .bool true, .bool false], .lst (.inl (.inl eL5)) (.cons (.bl _) (.cons (.bl _) (.cons (.bl _) .nil))), .lst (.inl (.inl upd_same)) (.cons (.bl _) (.cons (.bl _) (.cons (.bl _) .nil))), by decide +kernel, by decide +kernel, ?_⟩
      have ee : PyData.eqv (.list [.bool true, .bool true, .bool false]) (.list [.bool true, .bool true, .bool false]) = true := by decide +kernel
      rw [ee]
      exact q _ sA
end
end LH

namespace LH
open PySem PySem.Spec PyProof.Rows L2 NdefX LamX LU
/-- bad, and not the row -/
def BadR (r : Addr) (H : Hp) (n : Nat) (v : V) : Prop := Bad H n v ∧ v ≠ .ref r
theorem BadR.off {r : Addr} {H H' : Hp} {n : Nat} {v : V} (R : RowAt H r) (o : Off r H H') (h : BadR r H n v) : BadR r H' n v := by
  refine ⟨?_, h.2⟩
  rcases h.1 with hn | h1
  · refine .inl ?_
    have ne : ∀ {a : Addr}, v = .ref a → a ≠ r := fun e z => h.2 (by rw [e, z])
    cases hn with
    | non => exact .non
    | bl b => exact .bl b
    | int i => exact .int i
    | lst e => exact .lst (o _ _ (ne rfl) e)
    | tup e => exact .tup (o _ _ (ne rfl) e)
    | dk e => exact .dk (o _ _ (ne rfl) e)
  · exact .inr h1
theorem BadR.same {r : Addr} {H H' : Hp} {n : Nat} {v : V} (s : Same H H') (h : BadR r H n v) : BadR r H' n v := ⟨h.1.same s, h.2⟩
theorem badT {r : Addr} {H : Hp} {n : Nat} {v : V} {y : List Nat} (e : v = .str (tx y)) (l : y.length ≤ 1000) (h : y.length ≠ n ∨ ∃ c ∈ y, ¬ Sm c) : BadR r H n v := ⟨.inr ⟨y, e, l, h⟩, fun z => by rw [e] at z; cases z⟩
theorem rep_one (c : Nat) : ∀ n : Nat, (List.replicate n [c]).flatten = List.replicate n c
  | 0 => rfl
  | n + 1 => by
    rw [List.replicate_succ, List.flatten_cons, rep_one c n, List.replicate_succ]
    rfl
theorem badRep {r : Addr} {H : Hp} {n c : Nat} (n1 : 1 ≤ n) (n5 : n ≤ 5) (h : ¬ Sm c) : BadR r H n (.str (repS (tx [c]) ((n : Nat) : Int).toNat)) := by
  refine badT (y := List.replicate n c) ?_ (by rw [List.length_replicate]; omega) (.inr ⟨c, List.mem_replicate.mpr ⟨by omega, rfl⟩, h⟩)
  rw [Int.toNat_natCast]
  show V.str (tx (List.replicate n [c]).flatten) = _
  rw [rep_one]
def sgnS : Str := Str.ofString "ABMYZ0123456789 *+.|[]-_~{}!#$&'()/,:;<=>?@^`\n\"\\"
theorem sgnS_len : 1 ≤ sgnS.length ∧ sgnS.length ≤ 100 := by decide +kernel
theorem sgnS_bad : ∀ c ∈ sgnS.cps.toList, ¬ (97 ≤ c ∧ c ≤ 122) := by decide +kernel
theorem nodup_at {l : List Nat} (nd : l.Nodup) {i j x : Nat} (hi : l[i]? = some x) (hj : l[j]? = some x) : i = j := by
  obtain ⟨li, ei⟩ := List.getElem?_eq_some_iff.mp hi
  obtain ⟨lj, ej⟩ := List.getElem?_eq_some_iff.mp hj
  have h := List.pairwise_iff_getElem.mp nd
  rcases Nat.lt_trichotomy i j with a | a | a
  · exact absurd (ei.trans ej.symm) (h i j li lj a)
  · exact a
  · exact absurd (ej.trans ei.symm) (h j i lj li a)
theorem vs_set (cs : List Nat) (i c : Nat) : vs_ (cs.set i c) = (vs_ cs).set i (.str (sg c)) := List.map_set
/-- each letter, and itself -/
def kvD (z : List Nat) : List (Key × V) := z.map fun c => ((Sum.inr (sg c) : Key), V.str (sg c))
section
variable {P : Program} {w : World} {K : PySem.W.Frag} {mg : Str → Option Value} {base : Heap}
/-! ### _law_bad -/
def sp_law_bad : Sp := fun vs H Q _ => ∃ (r a : Addr) (z : Str) (xs : List V), vs = [.ref r, .str z, .ref a] ∧ RowAt H r ∧ IsLet z ∧ H a = some (.tup xs) ∧ ∀ H' v, Off r H H' → RowAt H' r → Bad H' z.length v → Q v H'
theorem ok_law_bad (T : TX K mg) : FnOk P w K mg base CX0 2 T.a_law_bad T.fd_law_bad ["draws", "letters", "world"] sp_law_bad := by
  have G_law_take : FnOk P w K mg base CX0 1 T.a_law_take T.fd_law_take ["draws", "many"] sp_law_take := ok_law_take T
  refine T.F_law_bad.ok sc_law_bad (fun vs H Q E h => ?_) (fun cdv A outer s H vs Q E hr h => ?_)
  · obtain ⟨r, a, z, xs, rfl, _⟩ := h
    rfl
  · obtain ⟨r, a, z, xs, rfl, R0, hz, ea, q⟩ := h
    refine ⟨_, (pss_cons (ps_set (i := 3) sc_law_bad.nd rfl (Or.inl rfl) (pe_lst (pa_cons (pe_slice sl_str (pv 1) (po_some pe_int) po_none) (pa_cons (pe_op op_add_str (pv 1) pe_str) (pa_cons (pe_op op_add_str (pv 1) (pv 1)) (pa_cons pe_str (pa_cons pe_non (pa_cons pe_bl (pa_cons pe_int (pa_cons (pe_callTy (call_listS rfl) (by rfl) T.m_list (by decide +kernel) (pa_cons (pv 1) pa_nil)) (pa_cons (pe_callTy (call_tupS rfl) (by rfl) T.m_tuple (by decide +kernel) (pa_cons (pv 1) pa_nil)) (pa_cons pe_dnewK pa_nil))))))))))))
      (pss_cons (ps_set (i := 3) sc_law_bad.nd rfl (Or.inl rfl) (pe_op op_cat (pv 3) (pe_lst (pa_cons (pe_callB call_len_str (by rfl) T.m_len (by decide +kernel) (pa_cons (pv 1) pa_nil)) (pa_cons (pe_op op_repS pe_str (pe_callB call_len_str (by rfl) T.m_len (by decide +kernel) (pa_cons (pv 1) pa_nil))) (pa_cons (pe_op op_repS pe_str (pe_callB call_len_str (by rfl) T.m_len (by decide +kernel) (pa_cons (pv 1) pa_nil))) (pa_cons (pe_op op_repS pe_str (pe_callB call_len_str (by rfl) T.m_len (by decide +kernel) (pa_cons (pv 1) pa_nil))) (pa_cons (pe_op op_repS pe_str (pe_callB call_len_str (by rfl) T.m_len (by decide +kernel) (pa_cons (pv 1) pa_nil))) pa_nil))))))))
      (pss_cons (ps_set (i := 3) sc_law_bad.nd rfl (Or.inl rfl) (pe_op op_cat (pv 3) (pe_lst (pa_cons (pe_op op_add_str (pv 1) pe_str) (pa_cons (pe_op op_add_str (pv 1) pe_str) (pa_cons (pe_op op_add_str pe_str (pv 1)) (pa_cons (pe_op op_add_str pe_str (pv 1)) (pa_cons (pv 2) (pa_cons (pe_lst (pa_cons (pv 1) pa_nil)) (pa_cons (pe_tup (pa_cons (pv 1) pa_nil)) pa_nil))))))))))
      (pss_cons (ps_set (i := 3) sc_law_bad.nd rfl (Or.inl rfl) (pe_op op_cat (pv 3) (pe_lst (pa_cons (pe_callTy (call_dictPK K rfl rfl) (by rfl) T.m_dict (by decide +kernel) (pa_cons (pe_lc (own := [("letter", 7)]) (g := gName 7) (tt := tYes) (by rfl) sc_law_bad.nd (pi_str (pv 1)) (blkOk_by (own := [("letter", 7)]) (N := N_law_bad) (by kernel_rfl)) (fun _ _ _ _ _ => (pg_name (i := 7) sc_law_bad.nd rfl (by first | exact Or.inl rfl | exact Or.inr rfl))) (fun _ _ _ _ _ => pts_nil) (fun _ _ _ _ _ => (pe_tup (pa_cons (pv 7) (pa_cons (pv 7) pa_nil))))) pa_nil)) (pa_cons (pe_op op_rep (pe_lst (pa_cons pe_str pa_nil)) (pe_callB call_len_str (by rfl) T.m_len (by decide +kernel) (pa_cons (pv 1) pa_nil))) (pa_cons (pe_op op_rep1 (pe_tup (pa_cons pe_int pa_nil)) (pe_callB call_len_str (by rfl) T.m_len (by decide +kernel) (pa_cons (pv 1) pa_nil))) pa_nil))))))
      (pss_cons (ps_set (i := 4) sc_law_bad.nd rfl (Or.inl rfl) (pe_call G_law_take (hr.mono (by decide)) (by rfl) T.g_law_take T.F_law_take.kp T.b_law_take .nil pass0 (pa_cons (pv 0) (pa_cons (pe_callB call_len_str (by rfl) T.m_len (by decide +kernel) (pa_cons (pv 1) pa_nil)) pa_nil))))
      (pss_cons (ps_set (i := 5) sc_law_bad.nd rfl (Or.inl rfl) pe_str)
      (pss_cons (ps_set (i := 6) sc_law_bad.nd rfl (Or.inl rfl) (pe_ix ix_str (pv 5) (pe_call G_law_take (hr.mono (by decide)) (by rfl) T.g_law_take T.F_law_take.kp T.b_law_take .nil pass0 (pa_cons (pv 0) (pa_cons (pe_callB call_len_str (by rfl) T.m_len (by decide +kernel) (pa_cons (pv 5) pa_nil)) pa_nil))) (fun _ _ => rfl)))
      (pss_cons (ps_set (i := 3) sc_law_bad.nd rfl (Or.inl rfl) (pe_op op_cat (pv 3) (pe_op op_rep (pe_lst (pa_cons (pe_op op_add_str (pe_op op_add_str (pe_slice sl_str (pv 1) po_none (po_some (pv 4))) (pv 6)) (pe_slice sl_str (pv 1) (po_some (pe_op op_add (pv 4) pe_int)) po_none)) (pa_cons (pe_op op_add_str (pe_slice sl_str (pv 1) po_none (po_some (pv 4))) (pe_slice sl_str (pv 1) (po_some (pe_op op_add (pv 4) pe_int)) po_none)) pa_nil))) pe_int)))
      (pss_one (ps_ret (pe_ix (ix_listK K rfl) (pv 3) (pe_call G_law_take (hr.mono (by decide)) (by rfl) T.g_law_take T.F_law_take.kp T.b_law_take .nil pass0 (pa_cons (pv 0) (pa_cons (pe_callB (call_lenK K rfl) (by rfl) T.m_len (by decide +kernel) (pa_cons (pv 3) pa_nil)) pa_nil))) (fun _ _ => rfl)))))))))))), ?_⟩
    have h1 := hz.one
    have h5 := hz.five
    obtain ⟨zs, rfl⟩ : ∃ zs, z = tx zs := ⟨z.cps.toList, (tJ_list z).symm⟩
    rw [tx_len] at h1 h5 q
    have lz : (tx zs).length ≤ sizeLine := by rw [tx_len]; exact seven _ (by omega)
    have ar : a ≠ r := fun e => by
      obtain ⟨ns, h, _⟩ := R0
      rw [← e, ea] at h
      cases h
    have fl : ∀ {x y : Str}, x.length + y.length ≤ 1000 → x.length + y.length ≤ sizeLine := fun h => seven _ h
    have s_a : (Str.ofString "a" : Str) = tx [97] := by decide +kernel
    have s_e : (Str.ofString "" : Str) = tx [] := by decide +kernel
    have s_n : (Str.ofString "\n" : Str) = tx [10] := by decide +kernel
    have s_b : (Str.ofString " " : Str) = tx [32] := by decide +kernel
    have s_7 : (Str.ofString "7" : Str) = tx [55] := by decide +kernel
    have s_l : (Str.ofString "[" : Str) = tx [91] := by decide +kernel
    have s_Z : (Str.ofString "Z" : Str) = tx [90] := by decide +kernel
    have c1 : cutS (tx zs) (some (1 : Int)) none = tx (zs.drop 1) := cut_hi zs 0
    -- the first ten
    refine ⟨.str (tx zs), rfl, (1 : Int), rfl, tx zs, rfl, lz, .str (tx zs), rfl, _, _, rfl, rfl, by rw [s_a]; exact seven _ (by rw [tx_len, tx_len]; show zs.length + 1 ≤ 1000; omega), .str (tx zs), rfl, .str (tx zs), rfl, _, _, rfl, rfl, seven _ (by rw [tx_len]; omega), .str (tx zs), rfl, tx zs, rfl, lz, fun l1 nl1 => ?_⟩
    have s1 := same_new (o := .lst (sgns (tx zs))) nl1
    have el1 : (upd H l1 (.lst (sgns (tx zs)))) l1 = some (.lst (sgns (tx zs))) := upd_same
    have rl1 := R0.ne nl1
    have R1 := R0.same s1
    generalize upd H l1 (.lst (sgns (tx zs))) = H1 at s1 el1 R1
    refine ⟨.str (tx zs), rfl, tx zs, rfl, lz, fun t1 nt1 => ?_⟩
    have s2 := same_new (o := .tup (sgns (tx zs))) nt1
    have et1 : (upd H1 t1 (.tup (sgns (tx zs)))) t1 = some (.tup (sgns (tx zs))) := upd_same
    have rt1 := R1.ne nt1
    have R2 := R1.same s2
    generalize upd H1 t1 (.tup (sgns (tx zs))) = H2 at s2 et1 R2
    refine fun d1 nd1 => ?_
    have s3 := same_new (o := .dK []) nd1
    have ed1 : (upd H2 d1 (.dK [])) d1 = some (.dK []) := upd_same
    have rd1 := R2.ne nd1
    have R3 := R2.same s3
    generalize upd H2 d1 (.dK []) = H3 at s3 ed1 R3
    refine ⟨by show 10 ≤ sizeLine; decide, fun L1 nL1 => ?_⟩
    rw [c1, s_a, s_e, tx_app, tx_app]
    have all1 : ∀ x ∈ [V.str (tx (zs.drop 1)), .str (tx (zs ++ [97])), .str (tx (zs ++ zs)), .str (tx []), .non, .bl true, .int 0, .ref l1, .ref t1, .ref d1], BadR r H3 zs.length x := by
      intro x hx
      simp only [List.mem_cons, List.not_mem_nil, or_false] at hx
      rcases hx with rfl | rfl | rfl | rfl | rfl | rfl | rfl | rfl | rfl | rfl
      · exact badT rfl (by rw [List.length_drop]; omega) (.inl (by rw [List.length_drop]; omega))
      · exact badT rfl (by rw [List.length_append]; show zs.length + 1 ≤ 1000; omega) (.inl (by rw [List.length_append]; show zs.length + 1 ≠ zs.length; omega))
      · exact badT rfl (by rw [List.length_append]; omega) (.inl (by rw [List.length_append]; omega))
      · exact badT rfl (Nat.zero_le _) (.inl (by show 0 ≠ zs.length; omega))
      · exact ⟨.inl .non, fun h => nomatch h⟩
      · exact ⟨.inl (.bl _), fun h => nomatch h⟩
      · exact ⟨.inl (.int _), fun h => nomatch h⟩
      · exact ⟨.inl (.lst (s3 _ _ (s2 _ _ el1))), fun h => rl1 (V.ref.inj h).symm⟩
      · exact ⟨.inl (.tup (s3 _ _ et1)), fun h => rt1 (V.ref.inj h).symm⟩
      · exact ⟨.inl (.dk ed1), fun h => rd1 (V.ref.inj h).symm⟩
    have len1 : ([V.str (tx (zs.drop 1)), .str (tx (zs ++ [97])), .str (tx (zs ++ zs)), .str (tx []), .non, .bl true, .int 0, .ref l1, .ref t1, .ref d1] : List V).length = 10 := rfl
    generalize ([V.str (tx (zs.drop 1)), .str (tx (zs ++ [97])), .str (tx (zs ++ zs)), .str (tx []), .non, .bl true, .int 0, .ref l1, .ref t1, .ref d1] : List V) = X1 at all1 len1
    have s4 := same_new (o := .lst X1) nL1
    have eL1 : (upd H3 L1 (.lst X1)) L1 = some (.lst X1) := upd_same
    have R4 := R3.same s4
    have b4 : ∀ x ∈ X1, BadR r (upd H3 L1 (.lst X1)) zs.length x := fun x hx => (all1 x hx).same s4
    have s04 := ((s1.trans s2).trans s3).trans s4
    clear all1 s1 s2 s3 s4 el1 et1 ed1 R1 R2 R3 nl1 nt1 nd1 nL1
    generalize upd H3 L1 (.lst X1) = H4 at eL1 R4 b4 s04
    -- five more
    refine ⟨.ref L1, rfl, .str (tx zs), rfl, tx zs, rfl, lz, .str (tx zs), rfl, tx zs, rfl, lz, Str.ofString "7", ((tx zs).length : Int), rfl, rfl, by rw [tx_len]; omega, by rw [tx_len]; omega, by rw [s_7]; show 1 ≤ 1000; decide, .str (tx zs), rfl, tx zs, rfl, lz, Str.ofString " ", ((tx zs).length : Int), rfl, rfl, by rw [tx_len]; omega, by rw [tx_len]; omega, by rw [s_b]; show 1 ≤ 1000; decide, .str (tx zs), rfl, tx zs, rfl, lz, Str.ofString "[", ((tx zs).length : Int), rfl, rfl, by rw [tx_len]; omega, by rw [tx_len]; omega, by rw [s_l]; show 1 ≤ 1000; decide, .str (tx zs), rfl, tx zs, rfl, lz, Str.ofString "Z", ((tx zs).length : Int), rfl, rfl, by rw [tx_len]; omega, by rw [tx_len]; omega, by rw [s_Z]; show 1 ≤ 1000; decide, ?_⟩
    refine ⟨by show 5 ≤ sizeLine; decide, fun L2 nL2 => ?_⟩
    rw [tx_len, s_7, s_b, s_l, s_Z]
    have all2 : ∀ x ∈ [V.int ((zs.length : Nat) : Int), .str (repS (tx [55]) ((zs.length : Nat) : Int).toNat), .str (repS (tx [32]) ((zs.length : Nat) : Int).toNat), .str (repS (tx [91]) ((zs.length : Nat) : Int).toNat), .str (repS (tx [90]) ((zs.length : Nat) : Int).toNat)], BadR r H4 zs.length x := by
      intro x hx
      simp only [List.mem_cons, List.not_mem_nil, or_false] at hx
      rcases hx with rfl | rfl | rfl | rfl | rfl
      · exact ⟨.inl (.int _), fun h => nomatch h⟩
      · exact badRep h1 h5 (by decide)
      · exact badRep h1 h5 (by decide)
      · exact badRep h1 h5 (by decide)
      · exact badRep h1 h5 (by decide)
    have len2 : ([V.int ((zs.length : Nat) : Int), .str (repS (tx [55]) ((zs.length : Nat) : Int).toNat), .str (repS (tx [32]) ((zs.length : Nat) : Int).toNat), .str (repS (tx [91]) ((zs.length : Nat) : Int).toNat), .str (repS (tx [90]) ((zs.length : Nat) : Int).toNat)] : List V).length = 5 := rfl
    generalize ([V.int ((zs.length : Nat) : Int), .str (repS (tx [55]) ((zs.length : Nat) : Int).toNat), .str (repS (tx [32]) ((zs.length : Nat) : Int).toNat), .str (repS (tx [91]) ((zs.length : Nat) : Int).toNat), .str (repS (tx [90]) ((zs.length : Nat) : Int).toNat)] : List V) = X2 at all2 len2
    have s5 := same_new (o := .lst X2) nL2
    refine ⟨L1, L2, X1, X2, rfl, rfl, s5 _ _ eL1, upd_same, by rw [len1, len2]; decide, fun L3 nL3 => ?_⟩
    have s6 := same_new (o := .lst (X1 ++ X2)) nL3
    have s46 := s5.trans s6
    have b6 : ∀ x ∈ X1 ++ X2, BadR r (upd (upd H4 L2 (.lst X2)) L3 (.lst (X1 ++ X2))) zs.length x := fun x hx => ((List.mem_append.mp hx).elim (b4 x) (all2 x)).same s46
    have eL3 : (upd (upd H4 L2 (.lst X2)) L3 (.lst (X1 ++ X2))) L3 = some (.lst (X1 ++ X2)) := upd_same
    have len3 : (X1 ++ X2).length = 15 := by rw [List.length_append, len1, len2]
    have R6 := R4.same s46
    have s06 := s04.trans s46
    clear all2 s5 s6 s46 eL1 b4 s04 nL2 nL3
    generalize upd (upd H4 L2 (.lst X2)) L3 (.lst (X1 ++ X2)) = H6 at eL3 b6 R6 s06
    generalize X1 ++ X2 = X3 at eL3 b6 len3
    -- seven more
    refine ⟨.ref L3, rfl, .str (tx zs), rfl, _, _, rfl, rfl, by rw [s_n]; exact seven _ (by rw [tx_len, tx_len]; show zs.length + 1 ≤ 1000; omega), .str (tx zs), rfl, _, _, rfl, rfl, by exact seven _ (by rw [tx_len, tx_len]; show zs.length + 1 ≤ 1000; omega), .str (tx zs), rfl, _, _, rfl, rfl, by exact seven _ (by rw [tx_len, tx_len]; show 1 + zs.length ≤ 1000; omega), .str (tx zs), rfl, _, _, rfl, rfl, by rw [s_n]; exact seven _ (by rw [tx_len, tx_len]; show 1 + zs.length ≤ 1000; omega), .ref a, rfl, .str (tx zs), rfl, by show 1 ≤ sizeLine; decide, fun l2 nl2 => ?_⟩
    have s7 := same_new (o := .lst [V.str (tx zs)]) nl2
    have el2 : (upd H6 l2 (.lst [V.str (tx zs)])) l2 = some (.lst [V.str (tx zs)]) := upd_same
    have rl2 := R6.ne nl2
    have R7 := R6.same s7
    generalize upd H6 l2 (.lst [V.str (tx zs)]) = H7 at s7 el2 R7
    refine ⟨.str (tx zs), rfl, by show 1 ≤ sizeLine; decide, fun t2 nt2 => ?_⟩
    have s8 := same_new (o := .tup [V.str (tx zs)]) nt2
    have et2 : (upd H7 t2 (.tup [V.str (tx zs)])) t2 = some (.tup [V.str (tx zs)]) := upd_same
    have rt2 := R7.ne nt2
    have R8 := R7.same s8
    generalize upd H7 t2 (.tup [V.str (tx zs)]) = H8 at s8 et2 R8
    refine ⟨by show 7 ≤ sizeLine; decide, fun L4 nL4 => ?_⟩
    rw [s_n, tx_app, tx_app, tx_app, tx_app]
    have ea8 := s8 _ _ (s7 _ _ (s06 _ _ ea))
    have all3 : ∀ x ∈ [V.str (tx (zs ++ [10])), .str (tx (zs ++ [32])), .str (tx ([32] ++ zs)), .str (tx ([10] ++ zs)), .ref a, .ref l2, .ref t2], BadR r H8 zs.length x := by
      intro x hx
      simp only [List.mem_cons, List.not_mem_nil, or_false] at hx
      rcases hx with rfl | rfl | rfl | rfl | rfl | rfl | rfl
      · exact badT rfl (by rw [List.length_append]; show zs.length + 1 ≤ 1000; omega) (.inl (by rw [List.length_append]; show zs.length + 1 ≠ zs.length; omega))
      · exact badT rfl (by rw [List.length_append]; show zs.length + 1 ≤ 1000; omega) (.inl (by rw [List.length_append]; show zs.length + 1 ≠ zs.length; omega))
      · exact badT rfl (by rw [List.length_append]; show 1 + zs.length ≤ 1000; omega) (.inl (by rw [List.length_append]; show 1 + zs.length ≠ zs.length; omega))
      · exact badT rfl (by rw [List.length_append]; show 1 + zs.length ≤ 1000; omega) (.inl (by rw [List.length_append]; show 1 + zs.length ≠ zs.length; omega))
      · exact ⟨.inl (.tup ea8), fun h => ar (V.ref.inj h)⟩
      · exact ⟨.inl (.lst (s8 _ _ el2)), fun h => rl2 (V.ref.inj h).symm⟩
      · exact ⟨.inl (.tup et2), fun h => rt2 (V.ref.inj h).symm⟩
    have len4 : ([V.str (tx (zs ++ [10])), .str (tx (zs ++ [32])), .str (tx ([32] ++ zs)), .str (tx ([10] ++ zs)), .ref a, .ref l2, .ref t2] : List V).length = 7 := rfl
    generalize ([V.str (tx (zs ++ [10])), .str (tx (zs ++ [32])), .str (tx ([32] ++ zs)), .str (tx ([10] ++ zs)), .ref a, .ref l2, .ref t2] : List V) = X4 at all3 len4
    have s9 := same_new (o := .lst X4) nL4
    have eL38 := s8 _ _ (s7 _ _ eL3)
    refine ⟨L3, L4, X3, X4, rfl, rfl, s9 _ _ eL38, upd_same, by rw [len3, len4]; decide, fun L5 nL5 => ?_⟩
    have s10 := same_new (o := .lst (X3 ++ X4)) nL5
    have s810 := s9.trans s10
    have s610 := (s7.trans s8).trans s810
    have b10 : ∀ x ∈ X3 ++ X4, BadR r (upd (upd H8 L4 (.lst X4)) L5 (.lst (X3 ++ X4))) zs.length x := fun x hx => (List.mem_append.mp hx).elim (fun h => (b6 x h).same s610) (fun h => (all3 x h).same s810)
    have eL5 : (upd (upd H8 L4 (.lst X4)) L5 (.lst (X3 ++ X4))) L5 = some (.lst (X3 ++ X4)) := upd_same
    have len5 : (X3 ++ X4).length = 22 := by rw [List.length_append, len3, len4]
    have R10 := R8.same s810
    have s010 := s06.trans s610
    clear all3 s7 s8 s9 s10 s810 s610 eL38 el2 et2 ea8 eL3 b6 s06 nl2 nt2 nL4 nL5 R7 R8
    generalize upd (upd H8 L4 (.lst X4)) L5 (.lst (X3 ++ X4)) = H10 at eL5 b10 R10 s010
    generalize X3 ++ X4 = X5 at eL5 b10 len5
    -- three more
    refine ⟨.ref L5, rfl, .str (tx zs), rfl, tx zs, rfl, fun D nD => ?_⟩
    refine lc_it walk_str (fun k H' => Same H10 H' ∧ ∃ qs : List Addr, H' D = some (.lst (vr qs)) ∧ qs.length = k ∧ ∀ (i : Nat) (a : Addr) (kv : Key × V), qs[i]? = some a → (kvD zs)[i]? = some kv → H' a = some (.tup [kV kv.1, kv.2])) ⟨same_new nD, [], upd_same, rfl, fun i a kv h => by simp at h⟩ (fun _ _ _ _ => trivial) (fun k v H5 H5' hk hW hY => ?_) (fun H5 hW => ?_)
    · obtain ⟨s5, qs, eD, ql, qat⟩ := hW
      obtain ⟨rfl, c, hc, rfl⟩ := hY
      have hc : zs[k]? = some c := by
        rw [← hc]
        exact List.getElem?_toArray.symm
      have hk := (List.getElem?_eq_some_iff.mp hc).1
      refine ⟨rfl, lcyes ⟨.str (sg c), rfl, .str (sg c), rfl, by show 2 ≤ sizeLine; decide, fun t nt => ?_⟩⟩
      have s6 := same_new (o := .tup [V.str (sg c), .str (sg c)]) nt
      have eD6 := s6 _ _ eD
      refine ⟨_, eD6, by rw [List.length_map]; exact fit6 (by omega), fun b u e => ?_, qs ++ [t], by rw [upd_same, vr_snoc], by rw [List.length_append, ql]; rfl, fun i a kv h1 h2 => ?_⟩
      · rw [upd_ne (ne_of_none e nD)]
        exact s6 _ _ (s5 _ _ e)
      · by_cases hi : i < qs.length
        · rw [List.getElem?_append_left hi] at h1
          have e := qat i a kv h1 h2
          have e6 := s6 _ _ e
          have ne : a ≠ D := fun z => by
            rw [z, eD6] at e6
            cases e6
          rw [upd_ne ne]
          exact e6
        · rw [List.getElem?_append_right (by omega)] at h1
          have e' : i - qs.length = 0 := by
            cases q : i - qs.length with
            | zero => rfl
            | succ k' =>
              rw [q] at h1
              simp at h1
          rw [e'] at h1
          have ea : t = a := Option.some.inj h1
          subst ea
          have ei : i = k := by omega
          subst ei
          unfold kvD at h2
          rw [List.getElem?_map, hc] at h2
          have h2 := Option.some.inj h2
          subst h2
          have ne : t ≠ D := fun z => by
            rw [z, eD] at nt
            cases nt
          rw [upd_ne ne, upd_same]
          rfl
    · obtain ⟨s5, qs, eD, ql, qat⟩ := hW
      have ql : qs.length = zs.length := ql
      have pr : Paired (fun p kv => SqT K H5 p [kV kv.1, kv.2]) qs (kvD zs) := paired_at (by unfold kvD; rw [List.length_map]; exact ql) fun i a kv h1 h2 => .inl (.inl (qat i a kv h1 h2))
      refine ⟨D, qs, kvD zs, rfl, .inl (.inl eD), pr, fun d nd => ?_⟩
      have s6 := s5.trans (same_new (o := .dK (mergeK [] (kvD zs))) nd)
      have R6 := R10.same s6
      have ed : (upd H5 d (.dK (mergeK [] (kvD zs)))) d = some (.dK (mergeK [] (kvD zs))) := upd_same
      have rd := (R10.same s5).ne nd
      generalize upd H5 d (.dK (mergeK [] (kvD zs))) = H6 at s6 R6 ed
      refine ⟨by show 1 ≤ sizeLine; decide, fun l3 nl3 => ?_⟩
      have s7 := same_new (o := .lst [V.str (Str.ofString "x")]) nl3
      have el3 : (upd H6 l3 (.lst [V.str (Str.ofString "x")])) l3 = some (.lst [V.str (Str.ofString "x")]) := upd_same
      have R7 := R6.same s7
      generalize upd H6 l3 (.lst [V.str (Str.ofString "x")]) = H7 at s7 el3 R7
      refine ⟨.str (tx zs), rfl, tx zs, rfl, lz, l3, _, [V.str (Str.ofString "x")], rfl, rfl, el3, by rw [tx_len]; omega, by rw [tx_len]; omega, by rw [tx_len, Int.toNat_natCast]; exact seven _ (by show 1 * zs.length ≤ 1000; omega), fun l4 nl4 => ?_⟩
      have s8 := same_new (o := .lst (List.replicate ((((tx zs).length : Nat) : Int)).toNat [V.str (Str.ofString "x")]).flatten) nl4
      have el4 := upd_same (H := H7) (a := l4) (o := .lst (List.replicate ((((tx zs).length : Nat) : Int)).toNat [V.str (Str.ofString "x")]).flatten)
      have rl4 := R7.ne nl4
      have R8 := R7.same s8
      generalize upd H7 l4 (.lst (List.replicate ((((tx zs).length : Nat) : Int)).toNat [V.str (Str.ofString "x")]).flatten) = H8 at s8 el4 R8
      refine ⟨by show 1 ≤ sizeLine; decide, fun t3 nt3 => ?_⟩
      have s9 := same_new (o := .tup [V.int 0]) nt3
      have et3 : (upd H8 t3 (.tup [V.int 0])) t3 = some (.tup [V.int 0]) := upd_same
      have R9 := R8.same s9
      have rt3 := R8.ne nt3
      generalize upd H8 t3 (.tup [V.int 0]) = H9 at s9 et3 R9
      refine ⟨.str (tx zs), rfl, tx zs, rfl, lz, t3, _, [V.int 0], rfl, rfl, et3, List.cons_ne_nil _ _, by rw [tx_len]; omega, by rw [tx_len]; omega, by decide, fun H11 t4 s10 et4 => ?_⟩
      have rt4 : V.ref t4 ≠ .ref r := fun h => by
        obtain ⟨ns, hh, _⟩ := R9.same s10
        rw [← V.ref.inj h, et4] at hh
        cases hh
      have s811 := s9.trans s10
      refine ⟨by show 3 ≤ sizeLine; decide, fun L6 nL6 => ?_⟩
      have R11 := R9.same s10
      have all4 : ∀ x ∈ [V.ref d, .ref l4, .ref t4], BadR r H11 zs.length x := by
        intro x hx
        simp only [List.mem_cons, List.not_mem_nil, or_false] at hx
        rcases hx with rfl | rfl | rfl
        · exact ⟨.inl (.dk (s811 _ _ (s8 _ _ (s7 _ _ ed)))), fun h => rd (V.ref.inj h).symm⟩
        · exact ⟨.inl (.lst (s811 _ _ el4)), fun h => rl4 (V.ref.inj h).symm⟩
        · exact ⟨.inl (.tup et4), rt4⟩
      have s1011 := ((s6.trans s7).trans s8).trans s811
      have s12 := same_new (o := .lst [V.ref d, .ref l4, .ref t4]) nL6
      have s1012 := s1011.trans s12
      refine ⟨L5, L6, X5, [V.ref d, .ref l4, .ref t4], rfl, rfl, s1012 _ _ eL5, upd_same, by rw [len5]; show 22 + 3 ≤ sizeLine; decide, fun L7 nL7 => ?_⟩
      have s13 := s12.trans (same_new (o := .lst (X5 ++ [V.ref d, .ref l4, .ref t4])) nL7)
      have b13 : ∀ x ∈ X5 ++ [V.ref d, .ref l4, .ref t4], BadR r (upd (upd H11 L6 (.lst [V.ref d, .ref l4, .ref t4])) L7 (.lst (X5 ++ [V.ref d, .ref l4, .ref t4]))) zs.length x := fun x hx => (List.mem_append.mp hx).elim (fun h => (b10 x h).same (s1011.trans s13)) (fun h => (all4 x h).same s13)
      have eL7 : (upd (upd H11 L6 (.lst [V.ref d, .ref l4, .ref t4])) L7 (.lst (X5 ++ [V.ref d, .ref l4, .ref t4]))) L7 = some (.lst (X5 ++ [V.ref d, .ref l4, .ref t4])) := upd_same
      have len7 : (X5 ++ [V.ref d, .ref l4, .ref t4]).length = 25 := by rw [List.length_append, len5]; rfl
      have R13 := R11.same s13
      have rL7 := (R11.same s12).ne nL7
      have s013 := s010.trans (s1011.trans s13)
      clear all4 s12 s1012 s13 s1011 s811 s10 s9 s8 s7 s6 eL5 b10 s010
      generalize upd (upd H11 L6 (.lst [V.ref d, .ref l4, .ref t4])) L7 (.lst (X5 ++ [V.ref d, .ref l4, .ref t4])) = H13 at eL7 b13 R13 s013
      generalize X5 ++ [V.ref d, .ref l4, .ref t4] = X7 at eL7 b13 len7
      have o13 : Off r H H13 := Off.of s013
      -- the place and the sign
      refine ⟨.ref r, rfl, .str (tx zs), rfl, tx zs, rfl, lz, r, _, rfl, R13, by rw [tx_len]; omega, by rw [tx_len]; omega, fun H14 g o14 R14 g0 g1 => ?_⟩
      rw [tx_len] at g1
      obtain ⟨i, rfl⟩ : ∃ i : Nat, g = (i : Int) := ⟨g.toNat, by omega⟩
      have eL14 := o14 _ _ (fun e => rL7 e.symm) eL7
      have b14 : ∀ x ∈ X7, BadR r H14 zs.length x := fun x hx => (b13 x hx).off R13 o14
      have lsg : sgnS.length ≤ sizeLine := seven _ (by have := sgnS_len.2; omega)
      have sg1 := sgnS_len.1
      have sg2 := sgnS_len.2
      refine ⟨.str sgnS, rfl, .ref r, rfl, .str sgnS, rfl, sgnS, rfl, lsg, r, _, rfl, R14, by omega, by omega, fun H15 g2 o15 R15 g20 g21 => ?_⟩
      obtain ⟨j, rfl⟩ : ∃ j : Nat, g2 = (j : Int) := ⟨g2.toNat, by omega⟩
      have sgl : sgnS.cps.toList.length = sgnS.length := Array.length_toList
      have hc := List.getElem?_eq_getElem (l := sgnS.cps.toList) (i := j) (by omega)
      generalize sgnS.cps.toList[j]'(by omega) = c at hc
      have hcb := sgnS_bad c (List.mem_of_getElem? hc)
      have eL15 := o15 _ _ (fun e => rL7 e.symm) eL14
      have b15 : ∀ x ∈ X7, BadR r H15 zs.length x := fun x hx => (b14 x hx).off R14 o15
      refine ⟨sgnS, (j : Int), c, rfl, rfl, lsg, atI_nat hc, ?_⟩
      -- the last two, thrice
      have il : (zs.take i).length = i := by rw [List.length_take]; omega
      have dl : (zs.drop (i + 1)).length = zs.length - (i + 1) := List.length_drop
      refine ⟨.ref L7, rfl, .str (tx zs), rfl, .int (i : Int), rfl, (i : Int), rfl, tx zs, rfl, lz, .str (sg c), rfl, _, _, rfl, rfl, ?_, .str (tx zs), rfl, .int (i : Int), rfl, (i : Int), 1, rfl, rfl, (i : Int) + 1, rfl, tx zs, rfl, lz, _, _, rfl, rfl, ?_, .str (tx zs), rfl, .int (i : Int), rfl, (i : Int), rfl, tx zs, rfl, lz, .str (tx zs), rfl, .int (i : Int), rfl, (i : Int), 1, rfl, rfl, (i : Int) + 1, rfl, tx zs, rfl, lz, _, _, rfl, rfl, ?_, by show 2 ≤ sizeLine; decide, fun L8 nL8 => ?_⟩
      · rw [cut_lo]
        exact seven _ (by rw [tx_len, il]; show i + 1 ≤ 1000; omega)
      · rw [cut_lo, cut_hi, show (sg c : Str) = tx [c] from rfl, tx_app, tx_len, tx_len]
        exact seven _ (by rw [List.length_append, il, dl]; show i + 1 + (zs.length - (i + 1)) ≤ 1000; omega)
      · rw [cut_lo, cut_hi, tx_len, tx_len]
        exact seven _ (by rw [il, dl]; omega)
      rw [cut_lo, cut_hi, show (sg c : Str) = tx [c] from rfl, tx_app, tx_app, tx_app]
      have all5 : ∀ x ∈ [V.str (tx (zs.take i ++ [c] ++ zs.drop (i + 1))), .str (tx (zs.take i ++ zs.drop (i + 1)))], BadR r H15 zs.length x := by
        intro x hx
        simp only [List.mem_cons, List.not_mem_nil, or_false] at hx
        rcases hx with rfl | rfl
        · exact badT rfl (by rw [List.length_append, List.length_append, il, dl]; show i + 1 + (zs.length - (i + 1)) ≤ 1000; omega) (.inr ⟨c, List.mem_append.mpr (.inl (List.mem_append.mpr (.inr (List.mem_singleton.mpr rfl)))), hcb⟩)
        · exact badT rfl (by rw [List.length_append, il, dl]; omega) (.inl (by rw [List.length_append, il, dl]; omega))
      have len8 : ([V.str (tx (zs.take i ++ [c] ++ zs.drop (i + 1))), .str (tx (zs.take i ++ zs.drop (i + 1)))] : List V).length = 2 := rfl
      generalize ([V.str (tx (zs.take i ++ [c] ++ zs.drop (i + 1))), .str (tx (zs.take i ++ zs.drop (i + 1)))] : List V) = X8 at all5 len8
      have s16 := same_new (o := .lst X8) nL8
      have lr : (List.replicate (3 : Int).toNat X8).flatten.length = 6 := by
        show (X8 ++ (X8 ++ (X8 ++ []))).length = 6
        simp only [List.length_append, len8, List.length_nil]
      refine ⟨L8, 3, X8, rfl, rfl, upd_same, by decide, by decide, by rw [len8]; decide, fun L9 nL9 => ?_⟩
      have s17 := same_new (o := .lst (List.replicate (3 : Int).toNat X8).flatten) nL9
      have s1617 := s16.trans s17
      have all6 : ∀ x ∈ (List.replicate (3 : Int).toNat X8).flatten, BadR r H15 zs.length x := by
        intro x hx
        obtain ⟨l, hl, hx⟩ := List.mem_flatten.mp hx
        rw [List.eq_of_mem_replicate hl] at hx
        exact all5 x hx
      generalize (List.replicate (3 : Int).toNat X8).flatten = X9 at all6 lr s17 s1617
      refine ⟨L7, L9, X7, X9, rfl, rfl, s1617 _ _ eL15, upd_same, by rw [len7, lr]; decide, fun LA nLA => ?_⟩
      have s18 := s1617.trans (same_new (o := .lst (X7 ++ X9)) nLA)
      have all7 : ∀ x ∈ X7 ++ X9, BadR r H15 zs.length x := fun x hx => (List.mem_append.mp hx).elim (b15 x) (all6 x)
      have all8 := fun x hx => (all7 x hx).same s18
      have len9 : (X7 ++ X9).length = 31 := by rw [List.length_append, len7, lr]
      have R18 := R15.same s18
      have eLA := upd_same (H := upd (upd H15 L8 (.lst X8)) L9 (.lst X9)) (a := LA) (o := .lst (X7 ++ X9))
      have rLA := (R15.same s1617).ne nLA
      generalize upd (upd (upd H15 L8 (.lst X8)) L9 (.lst X9)) LA (.lst (X7 ++ X9)) = H18 at s18 all8 R18 eLA
      generalize X7 ++ X9 = XX at eLA all8 len9 all7
      refine ⟨.ref LA, rfl, .ref r, rfl, .ref LA, rfl, LA, XX, rfl, .inl (.inl (.inl eLA)), r, _, rfl, R18, by rw [len9]; decide, by rw [len9]; decide, fun H19 g3 o19 R19 g30 g31 => ?_⟩
      obtain ⟨k, rfl⟩ : ∃ k : Nat, g3 = (k : Int) := ⟨g3.toNat, by omega⟩
      have hv := List.getElem?_eq_getElem (l := XX) (i := k) (by omega)
      generalize XX[k]'(by omega) = v at hv
      have hb := all8 v (List.mem_of_getElem? hv)
      refine ⟨LA, XX, (k : Int), v, rfl, rfl, .inl (.inl (o19 _ _ (fun e => rLA e.symm) eLA)), atI_nat hv, ?_⟩
      exact q H19 v ((((o13.trans o14).trans o15).trans (Off.of s18)).trans o19) R19 (hb.off R18 o19).1
/-! ### _law_alike -/
def sp_law_alike : Sp := fun vs H Q _ => ∃ (r : Addr) (zs : List Nat), vs = [.ref r, .str (tx zs)] ∧ RowAt H r ∧ IsLet (tx zs) ∧ 2 ≤ zs.length ∧ ∀ H' y, Off r H H' → RowAt H' r → y.length = zs.length → (∀ c ∈ y, Sm c) → ¬ y.Nodup → Q (.str (tx y)) H'
theorem ok_law_alike (T : TX K mg) : FnOk P w K mg base CX0 2 T.a_law_alike T.fd_law_alike ["draws", "letters"] sp_law_alike := by
  have G_law_take : FnOk P w K mg base CX0 1 T.a_law_take T.fd_law_take ["draws", "many"] sp_law_take := ok_law_take T
  refine T.F_law_alike.ok sc_law_alike (fun vs H Q E h => ?_) (fun cdv A outer s H vs Q E hr h => ?_)
  · obtain ⟨r, zs, rfl, _⟩ := h
    rfl
  · obtain ⟨r, zs, rfl, R0, hz, z2, q⟩ := h
    refine ⟨_, (pss_cons (ps_set (i := 2) sc_law_alike.nd rfl (Or.inl rfl) (pe_callTy (call_listS rfl) (by rfl) T.m_list (by decide +kernel) (pa_cons pe_str pa_nil)))
      (pss_cons (ps_set (i := 3) sc_law_alike.nd rfl (Or.inl rfl) (pe_callTy (call_listS rfl) (by rfl) T.m_list (by decide +kernel) (pa_cons (pv 1) pa_nil)))
      (pss_cons (ps_for PassesOwn.never rfl (pi_range1 (by rfl) T.m_range (pa_cons (pe_callB (call_lenK K rfl) (by rfl) T.m_len (by decide +kernel) (pa_cons (pv 3) pa_nil)) pa_nil)) (pg_name (i := 4) sc_law_alike.nd rfl (Or.inl rfl))
        (pss_one (ps_if (pt_cmpR op_eq (pe_call G_law_take (hr.mono (by decide)) (by rfl) T.g_law_take T.F_law_take.kp T.b_law_take .nil pass0 (pa_cons (pv 0) (pa_cons pe_int pa_nil))) pe_int (nomark _))
            (pss_one (ps_asg (pe_ix (ix_listK K rfl) (pv 2) (pe_call G_law_take (hr.mono (by decide)) (by rfl) T.g_law_take T.F_law_take.kp T.b_law_take .nil pass0 (pa_cons (pv 0) (pa_cons pe_int pa_nil))) (fun _ _ => rfl)) (pg_sub (pv 3) (pv 4) set_list)))
            pss_nil)))
      (pss_cons (ps_set (i := 5) sc_law_alike.nd rfl (Or.inl rfl) (pe_call G_law_take (hr.mono (by decide)) (by rfl) T.g_law_take T.F_law_take.kp T.b_law_take .nil pass0 (pa_cons (pv 0) (pa_cons (pe_callB (call_lenK K rfl) (by rfl) T.m_len (by decide +kernel) (pa_cons (pv 3) pa_nil)) pa_nil))))
      (pss_cons (ps_set (i := 6) sc_law_alike.nd rfl (Or.inl rfl) (pe_op op_mod (pe_op op_add (pe_op op_add (pv 5) pe_int) (pe_call G_law_take (hr.mono (by decide)) (by rfl) T.g_law_take T.F_law_take.kp T.b_law_take .nil pass0 (pa_cons (pv 0) (pa_cons (pe_op op_sub (pe_callB (call_lenK K rfl) (by rfl) T.m_len (by decide +kernel) (pa_cons (pv 3) pa_nil)) pe_int) pa_nil)))) (pe_callB (call_lenK K rfl) (by rfl) T.m_len (by decide +kernel) (pa_cons (pv 3) pa_nil))))
      (pss_cons (ps_asg (pe_ix (ix_listK K rfl) (pv 3) (pv 5) (fun _ _ => rfl)) (pg_sub (pv 3) (pv 6) set_list))
      (C8.pss_cut (ps_if (pt_cmpR op_eq (pe_call G_law_take (hr.mono (by decide)) (by rfl) T.g_law_take T.F_law_take.kp T.b_law_take .nil pass0 (pa_cons (pv 0) (pa_cons pe_int pa_nil))) pe_int (nomark _))
        (pss_one (ps_set (i := 3) sc_law_alike.nd rfl (Or.inl rfl) (pe_op op_rep (pe_lst (pa_cons (pe_ix (ix_listK K rfl) (pv 3) (pv 5) (fun _ _ => rfl)) pa_nil)) (pe_callB (call_lenK K rfl) (by rfl) T.m_len (by decide +kernel) (pa_cons (pv 3) pa_nil)))))
        pss_nil)
      (pss_one (ps_ret (pe_m1 PySem.F.slot_str_join PySem.F.type_str_join (mt_joinK K rfl) pe_str (pv 3))))))))))), ?_⟩
    have h1 := hz.one
    have h5 := hz.five
    rw [tx_len] at h1 h5
    have zsm : ∀ c ∈ zs, Sm c := hz.small
    clear hz
    have lz : (tx zs).length ≤ sizeLine := by rw [tx_len]; exact seven _ (by omega)
    refine ⟨Str.ofString "abcdefghijklmnopqrstuvwxyz", rfl, by decide +kernel, fun S nS => ?_⟩
    rw [sgns_az]
    have R1 := R0.new (o := .lst (vs_ ((List.range 26).map (97 + ·)))) nS
    have o1 : Off r H (upd H S (.lst (vs_ ((List.range 26).map (97 + ·))))) := Off.new nS
    have eS := upd_same (H := H) (a := S) (o := .lst (vs_ ((List.range 26).map (97 + ·))))
    have rS := R0.ne nS
    have az26 : ((List.range 26).map (97 + ·)).length = 26 := rfl
    have azs : ∀ c ∈ (List.range 26).map (97 + ·), Sm c := fun c hc => mem_az hc
    generalize (List.range 26).map (97 + ·) = az at R1 o1 eS az26 azs
    have s1 := same_new (o := .lst (vs_ az)) nS
    generalize upd H S (.lst (vs_ az)) = H1 at R1 o1 eS s1
    refine ⟨.str (tx zs), rfl, tx zs, rfl, lz, fun F nF => ?_⟩
    rw [show sgns (tx zs) = vs_ zs from rfl]
    have nF0 : H F = none := by
      cases h : H F with
      | none => rfl
      | some o =>
        have := s1 _ _ h
        rw [nF] at this
        cases this
    have FS : S ≠ F := ne_of_none eS nF
    have rF := R1.ne nF
    refine ⟨.ref F, rfl, F, vs_ zs, rfl, .inl (.inl (.inl upd_same)), _, rfl, by rw [List.length_map]; omega, by rw [List.length_map]; omega, ?_⟩
    refine for_range (lo := 0) (n := (((vs_ zs).length : Nat) : Int).toNat) (fun i σ H' => ∃ (cs : List Nat) (y4 : Option V), cs.length = zs.length ∧ (∀ c ∈ cs, Sm c) ∧ RowAt H' r ∧ Off r H H' ∧ H' S = some (.lst (vs_ az)) ∧ H' F = some (.lst (vs_ cs)) ∧ σ = [some (.ref r), some (.str (tx zs)), some (.ref S), some (.ref F), y4, none, none]) ⟨zs, none, rfl, zsm, R1.new nF, o1.mut nF0, by rw [upd_ne FS]; exact eS, upd_same, rfl⟩ (fun i σ H2 hi hW => ?_) (fun σ H2 hW => ?_)
    · obtain ⟨cs, y4, cl, csm, R2, o2, eS2, eF2, rfl⟩ := hW
      have hi : i < zs.length := by
        rw [List.length_map, Int.toNat_natCast] at hi
        exact hi
      refine ⟨.ref r, rfl, r, 2, rfl, R2, by decide, by decide, fun H3 g o3 R3 g0 g1 => ⟨rfl, _, rfl, ?_⟩⟩
      have eS3 := o3 _ _ (fun e => rS e.symm) eS2
      have eF3 := o3 _ _ (fun e => rF e.symm) eF2
      refine ite2 (fun _ => ?_) (fun _ => ?_)
      · refine ⟨.ref S, rfl, .ref r, rfl, r, 26, rfl, R3, by decide, by decide, fun H4 g2 o4 R4 g20 g21 => ?_⟩
        obtain ⟨j, rfl⟩ : ∃ j : Nat, g2 = (j : Int) := ⟨g2.toNat, by omega⟩
        have hc := List.getElem?_eq_getElem (l := az) (i := j) (by omega)
        generalize az[j]'(by omega) = c at hc
        have eS4 := o4 _ _ (fun e => rS e.symm) eS3
        have eF4 := o4 _ _ (fun e => rF e.symm) eF3
        refine ⟨S, vs_ az, (j : Int), .str (sg c), rfl, rfl, .inl (.inl eS4), atI_nat (by rw [List.getElem?_map, hc]; rfl), .ref F, rfl, .int (0 + (i : Int)), rfl, F, vs_ cs, 0 + (i : Int), i, rfl, rfl, eF4, by rw [Int.zero_add, List.length_map]; exact ixN_nat (by omega), cs.set i c, _, by rw [List.length_set]; exact cl, fun x hx => ?_, R4.upd rF, ((o2.trans o3).trans o4).mut nF0, by rw [upd_ne FS]; exact eS4, by rw [upd_same, vs_set], rfl⟩
        exact (List.mem_or_eq_of_mem_set hx).elim (csm x) fun e => by rw [e]; exact azs c (List.mem_of_getElem? hc)
      · exact ⟨cs, _, cl, csm, R3, o2.trans o3, eS3, eF3, rfl⟩
    · obtain ⟨cs, y4, cl, csm, R2, o2, eS2, eF2, rfl⟩ := hW
      -- at
      refine ⟨.ref r, rfl, .ref F, rfl, F, vs_ cs, rfl, .inl (.inl (.inl eF2)), r, _, rfl, R2, by rw [List.length_map]; omega, by rw [List.length_map]; omega, fun H3 g o3 R3 g0 g1 => ?_⟩
      rw [List.length_map] at g1
      obtain ⟨a, rfl⟩ : ∃ j : Nat, g = (j : Int) := ⟨g.toNat, by omega⟩
      have eF3 := o3 _ _ (fun e => rF e.symm) eF2
      -- other
      refine ⟨.int (a : Int), rfl, (a : Int), 1, rfl, rfl, .ref r, rfl, .ref F, rfl, F, vs_ cs, rfl, .inl (.inl (.inl eF3)), _, 1, rfl, rfl, r, _, rfl, R3, by rw [List.length_map]; omega, by rw [List.length_map]; omega, fun H4 g2 o4 R4 g20 g21 => ?_⟩
      rw [List.length_map] at g21
      obtain ⟨b, rfl⟩ : ∃ j : Nat, g2 = (j : Int) := ⟨g2.toNat, by omega⟩
      have eF4 := o4 _ _ (fun e => rF e.symm) eF3
      refine ⟨(a : Int) + 1, (b : Int), rfl, rfl, .ref F, rfl, F, vs_ cs, rfl, .inl (.inl (.inl eF4)), (a : Int) + 1 + (b : Int), _, rfl, rfl, by rw [List.length_map]; omega, ?_⟩
      have hn : ((a : Int) + 1 + (b : Int)) % (((vs_ cs).length : Nat) : Int) = (((a + 1 + b) % cs.length : Nat) : Int) := by
        rw [List.length_map]
        rfl
      dsimp only
      rw [hn]
      have ho : (a + 1 + b) % cs.length < cs.length := Nat.mod_lt _ (by omega)
      have ne : (a + 1 + b) % cs.length ≠ a := by
        by_cases hlt : a + 1 + b < cs.length
        · rw [Nat.mod_eq_of_lt hlt]
          omega
        · rw [Nat.mod_eq_sub_mod (by omega), Nat.mod_eq_of_lt (by omega)]
          omega
      generalize (a + 1 + b) % cs.length = o at ho ne
      -- the same letter twice
      have hc := List.getElem?_eq_getElem (l := cs) (i := a) (by omega)
      generalize cs[a]'(by omega) = c at hc
      have cm := csm c (List.mem_of_getElem? hc)
      refine ⟨.ref F, rfl, .int (a : Int), rfl, F, vs_ cs, (a : Int), .str (sg c), rfl, rfl, .inl (.inl eF4), atI_nat (by rw [List.getElem?_map, hc]; rfl), .ref F, rfl, .int (o : Int), rfl, F, vs_ cs, (o : Int), o, rfl, rfl, eF4, by rw [List.length_map]; exact ixN_nat ho, ?_⟩
      have R5 := R4.upd (o := .lst ((vs_ cs).set o (.str (sg c)))) rF
      have o5 := ((o2.trans o3).trans o4).mut (o := .lst ((vs_ cs).set o (.str (sg c)))) nF0
      have eF5 : (upd H4 F (.lst ((vs_ cs).set o (.str (sg c))))) F = some (.lst (vs_ (cs.set o c))) := by rw [upd_same, vs_set]
      generalize upd H4 F (.lst ((vs_ cs).set o (.str (sg c)))) = H5 at R5 o5 eF5
      have ndS : ¬ (cs.set o c).Nodup := fun nd => by
        have hA : (cs.set o c)[a]? = some c := by rw [List.getElem?_set_ne (by omega)]; exact hc
        have hB : (cs.set o c)[o]? = some c := List.getElem?_set_self ho
        exact ne (nodup_at nd hB hA)
      have smS : ∀ x ∈ cs.set o c, Sm x := fun x hx => (List.mem_or_eq_of_mem_set hx).elim (csm x) fun e => by rw [e]; exact cm
      have lS : (cs.set o c).length = zs.length := by rw [List.length_set]; exact cl
      have hA : (cs.set o c)[a]? = some c := by rw [List.getElem?_set_ne (by omega)]; exact hc
      refine ⟨fun σ' H' => ∃ (G : Addr) (ys : List Nat) (y2 y4 y5 y6 : Option V), σ' = [some (.ref r), some (.str (tx zs)), y2, some (.ref G), y4, y5, y6] ∧ RowAt H' r ∧ Off r H H' ∧ H' G = some (.lst (vs_ ys)) ∧ ys.length = zs.length ∧ (∀ x ∈ ys, Sm x) ∧ ¬ ys.Nodup, ?_, fun σ' H' hM => ?_⟩
      · refine ⟨.ref r, rfl, r, 4, rfl, R5, by decide, by decide, fun H6 g3 o6 R6 g30 g31 => ⟨rfl, _, rfl, ?_⟩⟩
        have eF6 := o6 _ _ (fun e => rF e.symm) eF5
        refine ite2 (fun _ => ?_) (fun _ => ?_)
        · refine ⟨.ref F, rfl, .int (a : Int), rfl, F, _, (a : Int), .str (sg c), rfl, rfl, .inl (.inl eF6), atI_nat (by rw [List.getElem?_map, hA]; rfl), by show 1 ≤ sizeLine; decide, fun l nl => ?_⟩
          have R7 := R6.new (o := .lst [V.str (sg c)]) nl
          have s7 := same_new (o := .lst [V.str (sg c)]) nl
          have el := upd_same (H := H6) (a := l) (o := .lst [V.str (sg c)])
          generalize upd H6 l (.lst [V.str (sg c)]) = H7 at R7 s7 el
          refine ⟨.ref F, rfl, F, _, rfl, .inl (.inl (.inl (s7 _ _ eF6))), l, _, [V.str (sg c)], rfl, rfl, el, by rw [List.length_map, lS]; omega, by rw [List.length_map, lS]; omega, by rw [List.length_map, lS, Int.toNat_natCast]; exact seven _ (by show 1 * zs.length ≤ 1000; omega), fun G nG => ?_⟩
          refine ⟨G, List.replicate zs.length c, _, _, _, _, rfl, R7.new nG, (o5.trans o6).trans (Off.of (s7.trans (same_new nG))), ?_, List.length_replicate, fun x hx => by rw [List.eq_of_mem_replicate hx]; exact cm, fun nd => ?_⟩
          · rw [upd_same, List.length_map, lS, Int.toNat_natCast, List.flatten_replicate_singleton, show vs_ (List.replicate zs.length c) = List.replicate zs.length (V.str (sg c)) from List.map_replicate]
          · have := nodup_at (i := 0) (j := 1) nd (x := c) (by rw [List.getElem?_replicate, if_pos (by omega)]) (by rw [List.getElem?_replicate, if_pos (by omega)])
            cases this
        · exact ⟨F, cs.set o c, _, _, _, _, rfl, R6, o5.trans o6, eF6, lS, smS, ndS⟩
      · obtain ⟨G, ys, y2, y4, y5, y6, rfl, R6, o6, eG, yl, ysm, ynd⟩ := hM
        rw [vs_str] at eG
        refine ⟨⟨_, rfl⟩, .ref G, rfl, ⟨#[]⟩, G, ys.map sg, rfl, rfl, .inl (.inl (.inl eG)), ?_, ?_⟩
        · rw [List.length_map, sum_sg]
          show ys.length + ys.length * 0 ≤ 16777216
          omega
        rw [join_sg]
        exact q H' ys o6 R6 yl ysm ynd
end
end LH

namespace LH
open PySem PySem.Spec PyProof.Rows L2 NdefX LamX LU
section
variable {P : Program} {w : World} {K : PySem.W.Frag} {mg : Str → Option Value} {base : Heap}
/-! ### law -/
def sp_law (K : PySem.W.Frag) : Sp := fun vs H Q _ => ∃ (a : Addr) (ns : List Int), vs = [.ref a] ∧ SqL K H a (ns.map V.int) ∧ ns.length ≤ 63 ∧ ∀ H', Q (.bl true) H'
theorem ok_law {f : Addr} {fd : FuncData} (F : Fun K "law" "law" s_law f fd) (T : TX K mg) : FnOk P w K mg base CX0 7 f fd ["script"] (sp_law K) := by
  have G_law_refused : FnOk P w K mg base CX0 6 T.a_law_refused T.fd_law_refused ["way", "world", "text"] sp_law_refused := ok_law_refused T
  have G_law_bad : FnOk P w K mg base CX0 2 T.a_law_bad T.fd_law_bad ["draws", "letters", "world"] sp_law_bad := ok_law_bad T
  have G_law_alike : FnOk P w K mg base CX0 2 T.a_law_alike T.fd_law_alike ["draws", "letters"] sp_law_alike := ok_law_alike T
  have G_law_pieces : FnOk P w K mg base CX0 4 T.a_law_pieces T.fd_law_pieces ["draws", "most", "rules"] sp_law_pieces := ok_law_pieces T
  have G_law_world : FnOk P w K mg base CX0 2 T.a_law_world T.fd_law_world ["pieces"] sp_law_world := ok_law_world T
  have G_law_draws : FnOk P w K mg base CX0 1 T.a_law_draws T.fd_law_draws ["script"] (sp_law_draws K) := ok_law_draws T
  refine F.ok sc_law (fun vs H Q E h => ?_) (fun cdv A outer s H vs Q E hr h => ?_)
  · obtain ⟨a, ns, rfl, _⟩ := h
    rfl
  · obtain ⟨a, ns, rfl, hS, hlen, q⟩ := h
    refine ⟨_, (pss_cons (ps_set (i := 1) sc_law.nd rfl (Or.inl rfl) (pe_call G_law_draws (hr.mono (by decide)) (by rfl) T.g_law_draws T.F_law_draws.kp T.b_law_draws .nil pass0 (pa_cons (pv 0) pa_nil)))
      (pss_cons (ps_set (i := 2) sc_law.nd rfl (Or.inl rfl) pe_int)
      (pss_cons (ps_while PassesOwn.never (LU.pt_midU (PW.pt (pw_or (pt_cmpR op_lt (pv 2) pe_int (nomark _)) (pw_or1 (PW.pt (pw_and (pt_cmpR (op_neD hr.units) (pv 1) (pe_lst pa_nil) (nomark _)) (pw_and1 (pt_cmpR op_lt (pv 2) pe_int (nomark _)))))))))
        (pss_cons (ps_set (i := 3) sc_law.nd rfl (Or.inl rfl) (pe_call G_law_pieces (hr.mono (by decide)) (by rfl) T.g_law_pieces T.F_law_pieces.kp T.b_law_pieces .nil pass0 (pa_cons (pv 1) (pa_cons pe_int (pa_cons pe_int pa_nil)))))
          (pss_cons (ps_set (i := 4) sc_law.nd rfl (Or.inl rfl) (pe_call G_law_world (hr.mono (by decide)) (by rfl) T.g_law_world T.F_law_world.kp T.b_law_world .nil pass0 (pa_cons (pv 3) pa_nil)))
          (pss_cons (ps_set (i := 5) sc_law.nd rfl (Or.inl rfl) (pe_ix (ix_tupK K rfl) (pv 3) pe_int (fun _ _ => rfl)))
          (pss_cons (ps_for PassesOwn.never rfl (pi_range1 (by rfl) T.m_range (pa_cons pe_int pa_nil)) (pg_name (i := 6) sc_law.nd rfl (Or.inl rfl))
            (pss_cons (ps_set (i := 7) sc_law.nd rfl (Or.inl rfl) (pe_call G_law_bad (hr.mono (by decide)) (by rfl) T.g_law_bad T.F_law_bad.kp T.b_law_bad .nil pass0 (pa_cons (pv 1) (pa_cons (pv 5) (pa_cons (pv 4) pa_nil)))))
              (pss_one (ps_if (PW.pt (pw_or (pt_not (pt_val (pe_call G_law_refused (hr.mono (by decide)) (by rfl) T.g_law_refused T.F_law_refused.kp T.b_law_refused .nil pass0 (pa_cons pe_int (pa_cons (pv 4) (pa_cons (pv 7) pa_nil)))))) (pw_or1 (pt_not (pt_val (pe_call G_law_refused (hr.mono (by decide)) (by rfl) T.g_law_refused T.F_law_refused.kp T.b_law_refused .nil pass0 (pa_cons pe_int (pa_cons (pv 4) (pa_cons (pv 7) pa_nil)))))))))
                (pss_one (ps_ret pe_bl))
                pss_nil))))
          (pss_cons (ps_for PassesOwn.never rfl (pi_range1 (by rfl) T.m_range (pa_cons pe_int pa_nil)) (pg_name (i := 6) sc_law.nd rfl (Or.inl rfl))
            (pss_one (ps_if (LU.pt_midU (PW.pt (pw_and (pt_cmpR op_gt (pe_callB call_len_str (by rfl) T.m_len (by decide +kernel) (pa_cons (pv 5) pa_nil)) pe_int (nomark _)) (pw_and1 (pt_not (pt_val (pe_call G_law_refused (hr.mono (by decide)) (by rfl) T.g_law_refused T.F_law_refused.kp T.b_law_refused .nil pass0 (pa_cons pe_int (pa_cons (pv 4) (pa_cons (pe_call G_law_alike (hr.mono (by decide)) (by rfl) T.g_law_alike T.F_law_alike.kp T.b_law_alike .nil pass0 (pa_cons (pv 1) (pa_cons (pv 5) pa_nil))) pa_nil))))))))))
                (pss_one (ps_ret pe_bl))
                pss_nil)))
          (pss_one (ps_set (i := 2) sc_law.nd rfl (Or.inl rfl) (pe_op op_add (pv 2) pe_int)))))))))
      (pss_one (ps_ret pe_bl))))), ?_⟩
    refine ⟨.ref a, rfl, a, ns, rfl, hS, hlen, fun H0 r s0 nr R1 => ?_⟩
    clear nr s0 hS
    refine ⟨fun mz σ H' => ∃ (k : Nat) (y3 y4 y5 y6 y7 : Option V), mz + k = 6 ∧ RowAt H' r ∧ σ = [some (.ref a), some (.ref r), some (.int (k : Int)), y3, y4, y5, y6, y7], ⟨6, 0, none, none, none, none, none, rfl, R1, rfl⟩, fun mz σ H1 hW => ?_⟩
    obtain ⟨k, y3, y4, y5, y6, y7, hm, R1, rfl⟩ := hW
    refine ⟨fun c H' => (c = true → k < 6) ∧ Same H1 H', ?_, fun c H2 hc => ?_⟩
    · refine ⟨.int (k : Int), rfl, _, 1, rfl, rfl, _, rfl, ite2 (fun y => ⟨fun _ => ?_, Same.refl _⟩) (fun _ => ?_)⟩
      · have := of_decide_eq_true y
        omega
      · obtain ⟨ds, er, hl⟩ := id R1
        refine ⟨.ref r, rfl, by show 0 ≤ sizeLine; decide, fun e ne => ?_⟩
        have s1 := same_new (o := .lst []) ne
        refine ⟨.list (ds.map PyData.int), .list [], .lst (.inl (.inl (s1 _ _ er))) (dpI ds), .lst (.inl (.inl upd_same)) .nil, shapedI ds, by decide +kernel, _, rfl, ite2 (fun _ => ?_) (fun _ => ⟨(fun z => nomatch z), s1⟩)⟩
        refine ⟨.int (k : Int), rfl, _, 6, rfl, rfl, _, rfl, fun y => ?_, s1⟩
        have := of_decide_eq_true y
        omega
    obtain ⟨hk, s2⟩ := hc
    have R2 := R1.same s2
    cases c with
    | false => exact iteF (q _)
    | true =>
      have hk := hk rfl
      refine iteT ?_
      clear R1 s2
      refine ⟨fun σ' H' => ∃ m', m' < mz ∧ ∃ (k : Nat) (y3 y4 y5 y6 y7 : Option V), m' + k = 6 ∧ RowAt H' r ∧ σ' = [some (.ref a), some (.ref r), some (.int (k : Int)), y3, y4, y5, y6, y7], fun σ' H' h => h, ?_⟩
      refine ⟨.ref r, rfl, r, 5, 8, rfl, R2, by decide, by decide, by decide, fun H3 p z sh rs t1 t2 o3 R3 hp ok _ _ => ?_⟩
      refine ⟨.ref p, rfl, p, z, sh, rs, t1, t2, rfl, hp, ok, fun H4 b s4 hW okW => ?_⟩
      obtain ⟨S, ps, F1, as1, F2, as2, ep, -⟩ := hp
      obtain ⟨w1, w2, eb, -⟩ := hW
      dsimp only at eb
      have R4 := R3.same s4
      have ep := s4 _ _ ep
      clear R2 R3 s4 okW o3
      have lz := ok.let_
      clear ok
      obtain ⟨zs, rfl⟩ : ∃ zs, z = tx zs := ⟨z.cps.toList, (tJ_list z).symm⟩
      have h1 := lz.one
      have h5 := lz.five
      rw [tx_len] at h1 h5
      have zz : (tx zs).length ≤ 5 := lz.five
      have br : b ≠ r := R4.neT eb
      refine ⟨.ref p, rfl, p, _, 0, _, rfl, rfl, .inl (.inl ep), rfl, ?_⟩
      refine ⟨3, rfl, by decide, by decide, ?_⟩
      refine for_range (lo := 0) (n := (3 : Int).toNat) (fun i σ H' => RowAt H' r ∧ H' b = some (.tup (.str (tx zs) :: [.str sh, .ref w1, .str (patS t1), .str (patS t2)])) ∧ ∃ y6 y7 : Option V, σ = [some (.ref a), some (.ref r), some (.int (k : Int)), some (.ref p), some (.ref b), some (.str (tx zs)), y6, y7]) ⟨R4, eb, _, _, rfl⟩ (fun i σ H5 hi hW => ?_) (fun σ H5 hW => ?_)
      · obtain ⟨R5, eb5, y6', y7', rfl⟩ := hW
        refine ⟨.ref r, rfl, .str (tx zs), rfl, .ref b, rfl, r, b, tx zs, _, rfl, R5, lz, eb5, fun H6 v o6 R6 hv => ?_⟩
        have eb6 := o6 _ _ br eb5
        refine ⟨.ref b, rfl, v, rfl, 0, b, tx zs, _, v, rfl, eb6, zz, .inl (by rw [tx_len]; exact hv), fun H7 s7 => ?_⟩
        have eb7 := s7 _ _ eb6
        refine ⟨_, rfl, .ref b, rfl, v, rfl, 1, b, tx zs, _, v, rfl, eb7, zz, .inl (by rw [tx_len]; exact hv.same s7), fun H8 s8 => ?_⟩
        exact ⟨_, rfl, iteF ⟨(R6.same s7).same s8, s8 _ _ eb7, _, _, rfl⟩⟩
      · obtain ⟨R5, eb5, y6', y7', rfl⟩ := hW
        refine ⟨2, rfl, by decide, by decide, ?_⟩
        refine for_range (lo := 0) (n := (2 : Int).toNat) (fun i σ H' => RowAt H' r ∧ H' b = some (.tup (.str (tx zs) :: [.str sh, .ref w1, .str (patS t1), .str (patS t2)])) ∧ ∃ y6 y7 : Option V, σ = [some (.ref a), some (.ref r), some (.int (k : Int)), some (.ref p), some (.ref b), some (.str (tx zs)), y6, y7]) ⟨R5, eb5, _, _, rfl⟩ (fun i σ H6 hi hW => ?_) (fun σ H6 hW => ?_)
        · obtain ⟨R6, eb6, y6', y7', rfl⟩ := hW
          refine ⟨fun c H' => c = false ∧ RowAt H' r ∧ H' b = some (.tup (.str (tx zs) :: [.str sh, .ref w1, .str (patS t1), .str (patS t2)])), ?_, fun c H7 hc => ?_⟩
          · refine ⟨.str (tx zs), rfl, tx zs, rfl, by rw [tx_len]; exact seven _ (by omega), _, _, rfl, rfl, _, rfl, ite2 (fun y => ?_) (fun _ => ⟨rfl, R6, eb6⟩)⟩
            have y := of_decide_eq_true y
            rw [tx_len] at y
            refine ⟨.ref b, rfl, .ref r, rfl, .str (tx zs), rfl, r, zs, rfl, R6, lz, by omega, fun H7 y7 o7 R7 yl ysm ynd => ?_⟩
            have eb7 := o7 _ _ br eb6
            refine ⟨0, b, tx zs, _, _, rfl, eb7, zz, .inr ⟨rfl, y7, rfl, by rw [tx_len]; exact yl, ysm, ynd⟩, fun H8 s8 => ?_⟩
            exact ⟨_, rfl, rfl, R7.same s8, s8 _ _ eb7⟩
          · obtain ⟨rfl, R7, eb7⟩ := hc
            exact iteF ⟨R7, eb7, _, _, rfl⟩
        · obtain ⟨R6, eb6, y6', y7', rfl⟩ := hW
          refine ⟨.int (k : Int), rfl, _, 1, rfl, rfl, mz - 1, by omega, k + 1, _, _, _, _, _, by omega, R6, rfl⟩
end
end LH

namespace LH
open PySem PySem.Spec PyProof.Rows L2 NdefX LamX
theorem all_mk {l : PySem.W.OpenLaw} {w : World} {K : PySem.W.Frag} {h : Heap} {mg : Str → Option Value} {fa : Addr} (X : K.In h) (G : h.Ns mainGlobals mg) (hfa : mg "law" = some (.ref fa))
    {f_items_in : Addr} {od_items_in an_items_in : Option Addr} {sl_items_in : Array (Option Value)} {oc_items_in kV_items_in dc_items_in pm_items_in cd_items_in ct_items_in : Value}
    (a_items_in : PySem.W.nsIn K mainGlobals "items_in" = some (some (.ref f_items_in))) (l_items_in : K.lookup f_items_in = some ⟨oc_items_in, od_items_in, .func (PySem.W.fnOf "items_in" "items_in" (defArgs s_items_in) (defBody s_items_in) (defScope s_items_in) .none kV_items_in dc_items_in pm_items_in an_items_in cd_items_in ct_items_in), sl_items_in⟩) (c_items_in : PySem.W.codeIn K cd_items_in "items_in" = true) (k_items_in : PySem.W.keepIn K (.ref f_items_in) = true)
    {f_renamed : Addr} {od_renamed an_renamed : Option Addr} {sl_renamed : Array (Option Value)} {oc_renamed kV_renamed dc_renamed pm_renamed cd_renamed ct_renamed : Value}
    (a_renamed : PySem.W.nsIn K mainGlobals "renamed" = some (some (.ref f_renamed))) (l_renamed : K.lookup f_renamed = some ⟨oc_renamed, od_renamed, .func (PySem.W.fnOf "renamed" "renamed" (defArgs s_renamed) (defBody s_renamed) (defScope s_renamed) .none kV_renamed dc_renamed pm_renamed an_renamed cd_renamed ct_renamed), sl_renamed⟩) (c_renamed : PySem.W.codeIn K cd_renamed "renamed" = true) (k_renamed : PySem.W.keepIn K (.ref f_renamed) = true)
    {f_coarser : Addr} {od_coarser an_coarser : Option Addr} {sl_coarser : Array (Option Value)} {oc_coarser kV_coarser dc_coarser pm_coarser cd_coarser ct_coarser : Value}
    (a_coarser : PySem.W.nsIn K mainGlobals "coarser" = some (some (.ref f_coarser))) (l_coarser : K.lookup f_coarser = some ⟨oc_coarser, od_coarser, .func (PySem.W.fnOf "coarser" "coarser" (defArgs s_coarser) (defBody s_coarser) (defScope s_coarser) .none kV_coarser dc_coarser pm_coarser an_coarser cd_coarser ct_coarser), sl_coarser⟩) (c_coarser : PySem.W.codeIn K cd_coarser "coarser" = true) (k_coarser : PySem.W.keepIn K (.ref f_coarser) = true)
    {f_is_names : Addr} {od_is_names an_is_names : Option Addr} {sl_is_names : Array (Option Value)} {oc_is_names kV_is_names dc_is_names pm_is_names cd_is_names ct_is_names : Value}
    (a_is_names : PySem.W.nsIn K mainGlobals "is_names" = some (some (.ref f_is_names))) (l_is_names : K.lookup f_is_names = some ⟨oc_is_names, od_is_names, .func (PySem.W.fnOf "is_names" "is_names" (defArgs s_is_names) (defBody s_is_names) (defScope s_is_names) .none kV_is_names dc_is_names pm_is_names an_is_names cd_is_names ct_is_names), sl_is_names⟩) (c_is_names : PySem.W.codeIn K cd_is_names "is_names" = true) (k_is_names : PySem.W.keepIn K (.ref f_is_names) = true)
    {f_mapped : Addr} {od_mapped an_mapped : Option Addr} {sl_mapped : Array (Option Value)} {oc_mapped kV_mapped dc_mapped pm_mapped cd_mapped ct_mapped : Value}
    (a_mapped : PySem.W.nsIn K mainGlobals "mapped" = some (some (.ref f_mapped))) (l_mapped : K.lookup f_mapped = some ⟨oc_mapped, od_mapped, .func (PySem.W.fnOf "mapped" "mapped" (defArgs s_mapped) (defBody s_mapped) (defScope s_mapped) .none kV_mapped dc_mapped pm_mapped an_mapped cd_mapped ct_mapped), sl_mapped⟩) (c_mapped : PySem.W.codeIn K cd_mapped "mapped" = true) (k_mapped : PySem.W.keepIn K (.ref f_mapped) = true)
    {f_rising : Addr} {od_rising an_rising : Option Addr} {sl_rising : Array (Option Value)} {oc_rising kV_rising dc_rising pm_rising cd_rising ct_rising : Value}
    (a_rising : PySem.W.nsIn K mainGlobals "rising" = some (some (.ref f_rising))) (l_rising : K.lookup f_rising = some ⟨oc_rising, od_rising, .func (PySem.W.fnOf "rising" "rising" (defArgs s_rising) (defBody s_rising) (defScope s_rising) .none kV_rising dc_rising pm_rising an_rising cd_rising ct_rising), sl_rising⟩) (c_rising : PySem.W.codeIn K cd_rising "rising" = true) (k_rising : PySem.W.keepIn K (.ref f_rising) = true)
    {f_mapped_text : Addr} {od_mapped_text an_mapped_text : Option Addr} {sl_mapped_text : Array (Option Value)} {oc_mapped_text kV_mapped_text dc_mapped_text pm_mapped_text cd_mapped_text ct_mapped_text : Value}
    (a_mapped_text : PySem.W.nsIn K mainGlobals "mapped_text" = some (some (.ref f_mapped_text))) (l_mapped_text : K.lookup f_mapped_text = some ⟨oc_mapped_text, od_mapped_text, .func (PySem.W.fnOf "mapped_text" "mapped_text" (defArgs s_mapped_text) (defBody s_mapped_text) (defScope s_mapped_text) .none kV_mapped_text dc_mapped_text pm_mapped_text an_mapped_text cd_mapped_text ct_mapped_text), sl_mapped_text⟩) (c_mapped_text : PySem.W.codeIn K cd_mapped_text "mapped_text" = true) (k_mapped_text : PySem.W.keepIn K (.ref f_mapped_text) = true)
    {f_mapped_rule : Addr} {od_mapped_rule an_mapped_rule : Option Addr} {sl_mapped_rule : Array (Option Value)} {oc_mapped_rule kV_mapped_rule dc_mapped_rule pm_mapped_rule cd_mapped_rule ct_mapped_rule : Value}
    (a_mapped_rule : PySem.W.nsIn K mainGlobals "mapped_rule" = some (some (.ref f_mapped_rule))) (l_mapped_rule : K.lookup f_mapped_rule = some ⟨oc_mapped_rule, od_mapped_rule, .func (PySem.W.fnOf "mapped_rule" "mapped_rule" (defArgs s_mapped_rule) (defBody s_mapped_rule) (defScope s_mapped_rule) .none kV_mapped_rule dc_mapped_rule pm_mapped_rule an_mapped_rule cd_mapped_rule ct_mapped_rule), sl_mapped_rule⟩) (c_mapped_rule : PySem.W.codeIn K cd_mapped_rule "mapped_rule" = true) (k_mapped_rule : PySem.W.keepIn K (.ref f_mapped_rule) = true)
    {f_mapped_image : Addr} {od_mapped_image an_mapped_image : Option Addr} {sl_mapped_image : Array (Option Value)} {oc_mapped_image kV_mapped_image dc_mapped_image pm_mapped_image cd_mapped_image ct_mapped_image : Value}
    (a_mapped_image : PySem.W.nsIn K mainGlobals "mapped_image" = some (some (.ref f_mapped_image))) (l_mapped_image : K.lookup f_mapped_image = some ⟨oc_mapped_image, od_mapped_image, .func (PySem.W.fnOf "mapped_image" "mapped_image" (defArgs s_mapped_image) (defBody s_mapped_image) (defScope s_mapped_image) .none kV_mapped_image dc_mapped_image pm_mapped_image an_mapped_image cd_mapped_image ct_mapped_image), sl_mapped_image⟩) (c_mapped_image : PySem.W.codeIn K cd_mapped_image "mapped_image" = true) (k_mapped_image : PySem.W.keepIn K (.ref f_mapped_image) = true)
    {f_mapped_pattern : Addr} {od_mapped_pattern an_mapped_pattern : Option Addr} {sl_mapped_pattern : Array (Option Value)} {oc_mapped_pattern kV_mapped_pattern dc_mapped_pattern pm_mapped_pattern cd_mapped_pattern ct_mapped_pattern : Value}
    (a_mapped_pattern : PySem.W.nsIn K mainGlobals "mapped_pattern" = some (some (.ref f_mapped_pattern))) (l_mapped_pattern : K.lookup f_mapped_pattern = some ⟨oc_mapped_pattern, od_mapped_pattern, .func (PySem.W.fnOf "mapped_pattern" "mapped_pattern" (defArgs s_mapped_pattern) (defBody s_mapped_pattern) (defScope s_mapped_pattern) .none kV_mapped_pattern dc_mapped_pattern pm_mapped_pattern an_mapped_pattern cd_mapped_pattern ct_mapped_pattern), sl_mapped_pattern⟩) (c_mapped_pattern : PySem.W.codeIn K cd_mapped_pattern "mapped_pattern" = true) (k_mapped_pattern : PySem.W.keepIn K (.ref f_mapped_pattern) = true)
    {f_mapped_item : Addr} {od_mapped_item an_mapped_item : Option Addr} {sl_mapped_item : Array (Option Value)} {oc_mapped_item kV_mapped_item dc_mapped_item pm_mapped_item cd_mapped_item ct_mapped_item : Value}
    (a_mapped_item : PySem.W.nsIn K mainGlobals "mapped_item" = some (some (.ref f_mapped_item))) (l_mapped_item : K.lookup f_mapped_item = some ⟨oc_mapped_item, od_mapped_item, .func (PySem.W.fnOf "mapped_item" "mapped_item" (defArgs s_mapped_item) (defBody s_mapped_item) (defScope s_mapped_item) .none kV_mapped_item dc_mapped_item pm_mapped_item an_mapped_item cd_mapped_item ct_mapped_item), sl_mapped_item⟩) (c_mapped_item : PySem.W.codeIn K cd_mapped_item "mapped_item" = true) (k_mapped_item : PySem.W.keepIn K (.ref f_mapped_item) = true)
    {f_law_draws : Addr} {od_law_draws an_law_draws : Option Addr} {sl_law_draws : Array (Option Value)} {oc_law_draws kV_law_draws dc_law_draws pm_law_draws cd_law_draws ct_law_draws : Value}
    (a_law_draws : PySem.W.nsIn K mainGlobals "_law_draws" = some (some (.ref f_law_draws))) (l_law_draws : K.lookup f_law_draws = some ⟨oc_law_draws, od_law_draws, .func (PySem.W.fnOf "_law_draws" "_law_draws" (defArgs s_law_draws) (defBody s_law_draws) (defScope s_law_draws) .none kV_law_draws dc_law_draws pm_law_draws an_law_draws cd_law_draws ct_law_draws), sl_law_draws⟩) (c_law_draws : PySem.W.codeIn K cd_law_draws "_law_draws" = true) (k_law_draws : PySem.W.keepIn K (.ref f_law_draws) = true)
    {f_law_take : Addr} {od_law_take an_law_take : Option Addr} {sl_law_take : Array (Option Value)} {oc_law_take kV_law_take dc_law_take pm_law_take cd_law_take ct_law_take : Value}
    (a_law_take : PySem.W.nsIn K mainGlobals "_law_take" = some (some (.ref f_law_take))) (l_law_take : K.lookup f_law_take = some ⟨oc_law_take, od_law_take, .func (PySem.W.fnOf "_law_take" "_law_take" (defArgs s_law_take) (defBody s_law_take) (defScope s_law_take) .none kV_law_take dc_law_take pm_law_take an_law_take cd_law_take ct_law_take), sl_law_take⟩) (c_law_take : PySem.W.codeIn K cd_law_take "_law_take" = true) (k_law_take : PySem.W.keepIn K (.ref f_law_take) = true)
    {f_law_letters : Addr} {od_law_letters an_law_letters : Option Addr} {sl_law_letters : Array (Option Value)} {oc_law_letters kV_law_letters dc_law_letters pm_law_letters cd_law_letters ct_law_letters : Value}
    (a_law_letters : PySem.W.nsIn K mainGlobals "_law_letters" = some (some (.ref f_law_letters))) (l_law_letters : K.lookup f_law_letters = some ⟨oc_law_letters, od_law_letters, .func (PySem.W.fnOf "_law_letters" "_law_letters" (defArgs s_law_letters) (defBody s_law_letters) (defScope s_law_letters) .none kV_law_letters dc_law_letters pm_law_letters an_law_letters cd_law_letters ct_law_letters), sl_law_letters⟩) (c_law_letters : PySem.W.codeIn K cd_law_letters "_law_letters" = true) (k_law_letters : PySem.W.keepIn K (.ref f_law_letters) = true)
    {f_law_some : Addr} {od_law_some an_law_some : Option Addr} {sl_law_some : Array (Option Value)} {oc_law_some kV_law_some dc_law_some pm_law_some cd_law_some ct_law_some : Value}
    (a_law_some : PySem.W.nsIn K mainGlobals "_law_some" = some (some (.ref f_law_some))) (l_law_some : K.lookup f_law_some = some ⟨oc_law_some, od_law_some, .func (PySem.W.fnOf "_law_some" "_law_some" (defArgs s_law_some) (defBody s_law_some) (defScope s_law_some) .none kV_law_some dc_law_some pm_law_some an_law_some cd_law_some ct_law_some), sl_law_some⟩) (c_law_some : PySem.W.codeIn K cd_law_some "_law_some" = true) (k_law_some : PySem.W.keepIn K (.ref f_law_some) = true)
    {f_law_rule : Addr} {od_law_rule an_law_rule : Option Addr} {sl_law_rule : Array (Option Value)} {oc_law_rule kV_law_rule dc_law_rule pm_law_rule cd_law_rule ct_law_rule : Value}
    (a_law_rule : PySem.W.nsIn K mainGlobals "_law_rule" = some (some (.ref f_law_rule))) (l_law_rule : K.lookup f_law_rule = some ⟨oc_law_rule, od_law_rule, .func (PySem.W.fnOf "_law_rule" "_law_rule" (defArgs s_law_rule) (defBody s_law_rule) (defScope s_law_rule) .none kV_law_rule dc_law_rule pm_law_rule an_law_rule cd_law_rule ct_law_rule), sl_law_rule⟩) (c_law_rule : PySem.W.codeIn K cd_law_rule "_law_rule" = true) (k_law_rule : PySem.W.keepIn K (.ref f_law_rule) = true)
    {f_law_fitting : Addr} {od_law_fitting an_law_fitting : Option Addr} {sl_law_fitting : Array (Option Value)} {oc_law_fitting kV_law_fitting dc_law_fitting pm_law_fitting cd_law_fitting ct_law_fitting : Value}
    (a_law_fitting : PySem.W.nsIn K mainGlobals "_law_fitting" = some (some (.ref f_law_fitting))) (l_law_fitting : K.lookup f_law_fitting = some ⟨oc_law_fitting, od_law_fitting, .func (PySem.W.fnOf "_law_fitting" "_law_fitting" (defArgs s_law_fitting) (defBody s_law_fitting) (defScope s_law_fitting) .none kV_law_fitting dc_law_fitting pm_law_fitting an_law_fitting cd_law_fitting ct_law_fitting), sl_law_fitting⟩) (c_law_fitting : PySem.W.codeIn K cd_law_fitting "_law_fitting" = true) (k_law_fitting : PySem.W.keepIn K (.ref f_law_fitting) = true)
    {f_law_branches : Addr} {od_law_branches an_law_branches : Option Addr} {sl_law_branches : Array (Option Value)} {oc_law_branches kV_law_branches dc_law_branches pm_law_branches cd_law_branches ct_law_branches : Value}
    (a_law_branches : PySem.W.nsIn K mainGlobals "_law_branches" = some (some (.ref f_law_branches))) (l_law_branches : K.lookup f_law_branches = some ⟨oc_law_branches, od_law_branches, .func (PySem.W.fnOf "_law_branches" "_law_branches" (defArgs s_law_branches) (defBody s_law_branches) (defScope s_law_branches) .none kV_law_branches dc_law_branches pm_law_branches an_law_branches cd_law_branches ct_law_branches), sl_law_branches⟩) (c_law_branches : PySem.W.codeIn K cd_law_branches "_law_branches" = true) (k_law_branches : PySem.W.keepIn K (.ref f_law_branches) = true)
    {f_law_pattern : Addr} {od_law_pattern an_law_pattern : Option Addr} {sl_law_pattern : Array (Option Value)} {oc_law_pattern kV_law_pattern dc_law_pattern pm_law_pattern cd_law_pattern ct_law_pattern : Value}
    (a_law_pattern : PySem.W.nsIn K mainGlobals "_law_pattern" = some (some (.ref f_law_pattern))) (l_law_pattern : K.lookup f_law_pattern = some ⟨oc_law_pattern, od_law_pattern, .func (PySem.W.fnOf "_law_pattern" "_law_pattern" (defArgs s_law_pattern) (defBody s_law_pattern) (defScope s_law_pattern) .none kV_law_pattern dc_law_pattern pm_law_pattern an_law_pattern cd_law_pattern ct_law_pattern), sl_law_pattern⟩) (c_law_pattern : PySem.W.codeIn K cd_law_pattern "_law_pattern" = true) (k_law_pattern : PySem.W.keepIn K (.ref f_law_pattern) = true)
    {f_law_pieces : Addr} {od_law_pieces an_law_pieces : Option Addr} {sl_law_pieces : Array (Option Value)} {oc_law_pieces kV_law_pieces dc_law_pieces pm_law_pieces cd_law_pieces ct_law_pieces : Value}
    (a_law_pieces : PySem.W.nsIn K mainGlobals "_law_pieces" = some (some (.ref f_law_pieces))) (l_law_pieces : K.lookup f_law_pieces = some ⟨oc_law_pieces, od_law_pieces, .func (PySem.W.fnOf "_law_pieces" "_law_pieces" (defArgs s_law_pieces) (defBody s_law_pieces) (defScope s_law_pieces) .none kV_law_pieces dc_law_pieces pm_law_pieces an_law_pieces cd_law_pieces ct_law_pieces), sl_law_pieces⟩) (c_law_pieces : PySem.W.codeIn K cd_law_pieces "_law_pieces" = true) (k_law_pieces : PySem.W.keepIn K (.ref f_law_pieces) = true)
    {f_law_world : Addr} {od_law_world an_law_world : Option Addr} {sl_law_world : Array (Option Value)} {oc_law_world kV_law_world dc_law_world pm_law_world cd_law_world ct_law_world : Value}
    (a_law_world : PySem.W.nsIn K mainGlobals "_law_world" = some (some (.ref f_law_world))) (l_law_world : K.lookup f_law_world = some ⟨oc_law_world, od_law_world, .func (PySem.W.fnOf "_law_world" "_law_world" (defArgs s_law_world) (defBody s_law_world) (defScope s_law_world) .none kV_law_world dc_law_world pm_law_world an_law_world cd_law_world ct_law_world), sl_law_world⟩) (c_law_world : PySem.W.codeIn K cd_law_world "_law_world" = true) (k_law_world : PySem.W.keepIn K (.ref f_law_world) = true)
    {f_law_refused : Addr} {od_law_refused an_law_refused : Option Addr} {sl_law_refused : Array (Option Value)} {oc_law_refused kV_law_refused dc_law_refused pm_law_refused cd_law_refused ct_law_refused : Value}
    (a_law_refused : PySem.W.nsIn K mainGlobals "_law_refused" = some (some (.ref f_law_refused))) (l_law_refused : K.lookup f_law_refused = some ⟨oc_law_refused, od_law_refused, .func (PySem.W.fnOf "_law_refused" "_law_refused" (defArgs s_law_refused) (defBody s_law_refused) (defScope s_law_refused) .none kV_law_refused dc_law_refused pm_law_refused an_law_refused cd_law_refused ct_law_refused), sl_law_refused⟩) (c_law_refused : PySem.W.codeIn K cd_law_refused "_law_refused" = true) (k_law_refused : PySem.W.keepIn K (.ref f_law_refused) = true)
    {f_law_bad : Addr} {od_law_bad an_law_bad : Option Addr} {sl_law_bad : Array (Option Value)} {oc_law_bad kV_law_bad dc_law_bad pm_law_bad cd_law_bad ct_law_bad : Value}
    (a_law_bad : PySem.W.nsIn K mainGlobals "_law_bad" = some (some (.ref f_law_bad))) (l_law_bad : K.lookup f_law_bad = some ⟨oc_law_bad, od_law_bad, .func (PySem.W.fnOf "_law_bad" "_law_bad" (defArgs s_law_bad) (defBody s_law_bad) (defScope s_law_bad) .none kV_law_bad dc_law_bad pm_law_bad an_law_bad cd_law_bad ct_law_bad), sl_law_bad⟩) (c_law_bad : PySem.W.codeIn K cd_law_bad "_law_bad" = true) (k_law_bad : PySem.W.keepIn K (.ref f_law_bad) = true)
    {f_law_alike : Addr} {od_law_alike an_law_alike : Option Addr} {sl_law_alike : Array (Option Value)} {oc_law_alike kV_law_alike dc_law_alike pm_law_alike cd_law_alike ct_law_alike : Value}
    (a_law_alike : PySem.W.nsIn K mainGlobals "_law_alike" = some (some (.ref f_law_alike))) (l_law_alike : K.lookup f_law_alike = some ⟨oc_law_alike, od_law_alike, .func (PySem.W.fnOf "_law_alike" "_law_alike" (defArgs s_law_alike) (defBody s_law_alike) (defScope s_law_alike) .none kV_law_alike dc_law_alike pm_law_alike an_law_alike cd_law_alike ct_law_alike), sl_law_alike⟩) (c_law_alike : PySem.W.codeIn K cd_law_alike "_law_alike" = true) (k_law_alike : PySem.W.keepIn K (.ref f_law_alike) = true)
    {f_law : Addr} {od_law an_law : Option Addr} {sl_law : Array (Option Value)} {oc_law kV_law dc_law pm_law cd_law ct_law : Value}
    (a_law : PySem.W.nsIn K mainGlobals "law" = some (some (.ref f_law))) (l_law : K.lookup f_law = some ⟨oc_law, od_law, .func (PySem.W.fnOf "law" "law" (defArgs s_law) (defBody s_law) (defScope s_law) .none kV_law dc_law pm_law an_law cd_law ct_law), sl_law⟩) (c_law : PySem.W.codeIn K cd_law "law" = true) (k_law : PySem.W.keepIn K (.ref f_law) = true)
    (z_ValueError : PySem.W.nsIn K mainGlobals "ValueError" = some none)
    (z_abs : PySem.W.nsIn K mainGlobals "abs" = some none)
    (z_all : PySem.W.nsIn K mainGlobals "all" = some none)
    (z_dict : PySem.W.nsIn K mainGlobals "dict" = some none)
    (z_isinstance : PySem.W.nsIn K mainGlobals "isinstance" = some none)
    (z_len : PySem.W.nsIn K mainGlobals "len" = some none)
    (z_list : PySem.W.nsIn K mainGlobals "list" = some none)
    (z_min : PySem.W.nsIn K mainGlobals "min" = some none)
    (z_range : PySem.W.nsIn K mainGlobals "range" = some none)
    (z_set : PySem.W.nsIn K mainGlobals "set" = some none)
    (z_sorted : PySem.W.nsIn K mainGlobals "sorted" = some none)
    (z_str : PySem.W.nsIn K mainGlobals "str" = some none)
    (z_tuple : PySem.W.nsIn K mainGlobals "tuple" = some none)
    (z_zip : PySem.W.nsIn K mainGlobals "zip" = some none)
    {A_HandsError : Addr} (y_HandsError : PySem.W.nsIn K mainGlobals "HandsError" = some (some (.ref A_HandsError)))
    {A_NoMap : Addr} (y_NoMap : PySem.W.nsIn K mainGlobals "NoMap" = some (some (.ref A_NoMap)))
    {A_NoPattern : Addr} (y_NoPattern : PySem.W.nsIn K mainGlobals "NoPattern" = some (some (.ref A_NoPattern)))
    {A_NoRow : Addr} (y_NoRow : PySem.W.nsIn K mainGlobals "NoRow" = some (some (.ref A_NoRow)))
    {A_NoStory : Addr} (y_NoStory : PySem.W.nsIn K mainGlobals "NoStory" = some (some (.ref A_NoStory)))
    {A_NoWorld : Addr} (y_NoWorld : PySem.W.nsIn K mainGlobals "NoWorld" = some (some (.ref A_NoWorld)))
    (e_NoMap : PySem.W.excIn K A_NoMap [.type "ValueError", .type "Exception", .type "BaseException", .type "object"] "ValueError.__new__" = true)
    (k_NoMap : PySem.W.keepIn K (.ref A_NoMap) = true)
    (b_NoMap : PySem.W.subIn K (.ref A_NoMap) (.type "BaseException") = some true)
    (t_NoMap : PySem.W.typeIn K (.ref A_NoMap) = some (.type "type"))
    (h1_NoMap : PySem.W.findIn K (.ref A_NoMap) "__getattribute__" = some (some (.builtin "BaseException.__getattribute__")))
    (h2_NoMap : PySem.W.findIn K (.ref A_NoMap) "__getattr__" = some none)
    (h4_NoMap : PySem.W.hasDictIn K A_NoMap = true)
    (h5_NoMap : PySem.W.findIn K (.ref A_NoMap) "__class__" = some (some (.builtin "object.__class__")))
    (h6_NoMap : PySem.W.specialIn K (.builtin "object.__class__") "__get__" = some (some (.builtin "getset_descriptor.__get__")))
    (h7_NoMap : PySem.W.takesIn K (.builtin "object.__class__") = some true)
    (h8_NoMap : PySem.W.mroIn K A_NoMap (.type "object") = some true)
    (c1_NoMap_HandsError : PySem.W.subIn K (.ref A_HandsError) (.type "BaseException") = some true)
    (c2_NoMap_HandsError : PySem.W.hasDictIn K A_HandsError = true)
    (c3_NoMap_HandsError : PySem.W.typeIn K (.ref A_HandsError) = some (.type "type"))
    (c4_NoMap_HandsError : PySem.W.subIn K (.ref A_NoMap) (.ref A_HandsError) = some true)
    (q_NoMap_NoMap : PySem.W.kitOne K (.ref A_NoMap) (.ref A_NoMap) = some true)
    (q_NoMap_NoPattern : PySem.W.kitOne K (.ref A_NoMap) (.ref A_NoPattern) = some false)
    (q_NoMap_NoRow : PySem.W.kitOne K (.ref A_NoMap) (.ref A_NoRow) = some false)
    (q_NoMap_NoStory : PySem.W.kitOne K (.ref A_NoMap) (.ref A_NoStory) = some false)
    (q_NoMap_NoWorld : PySem.W.kitOne K (.ref A_NoMap) (.ref A_NoWorld) = some false)
    (q_NoMap_V : PySem.W.kitOne K (.ref A_NoMap) (.type "ValueError") = some true)
    : ∃ fd : FuncData, (∀ (s : Shared) (v : Value), BindsTo s fd ⟨[v], []⟩ [("script", v)]) ∧ ∀ base : Heap, K.In base → base.Ns mainGlobals mg → FnOk l.prog w K mg base CX0 7 fa fd ["script"] (sp_law K) := by
  have e := hfa.symm.trans (PySem.W.mg_of X G a_law)
  cases e
  have F_items_in := fun_mk (st := s_items_in) l_items_in c_items_in k_items_in
  have F_renamed := fun_mk (st := s_renamed) l_renamed c_renamed k_renamed
  have F_coarser := fun_mk (st := s_coarser) l_coarser c_coarser k_coarser
  have F_is_names := fun_mk (st := s_is_names) l_is_names c_is_names k_is_names
  have F_mapped := fun_mk (st := s_mapped) l_mapped c_mapped k_mapped
  have F_rising := fun_mk (st := s_rising) l_rising c_rising k_rising
  have F_mapped_text := fun_mk (st := s_mapped_text) l_mapped_text c_mapped_text k_mapped_text
  have F_mapped_rule := fun_mk (st := s_mapped_rule) l_mapped_rule c_mapped_rule k_mapped_rule
  have F_mapped_image := fun_mk (st := s_mapped_image) l_mapped_image c_mapped_image k_mapped_image
  have F_mapped_pattern := fun_mk (st := s_mapped_pattern) l_mapped_pattern c_mapped_pattern k_mapped_pattern
  have F_mapped_item := fun_mk (st := s_mapped_item) l_mapped_item c_mapped_item k_mapped_item
  have F_law_draws := fun_mk (st := s_law_draws) l_law_draws c_law_draws k_law_draws
  have F_law_take := fun_mk (st := s_law_take) l_law_take c_law_take k_law_take
  have F_law_letters := fun_mk (st := s_law_letters) l_law_letters c_law_letters k_law_letters
  have F_law_some := fun_mk (st := s_law_some) l_law_some c_law_some k_law_some
  have F_law_rule := fun_mk (st := s_law_rule) l_law_rule c_law_rule k_law_rule
  have F_law_fitting := fun_mk (st := s_law_fitting) l_law_fitting c_law_fitting k_law_fitting
  have F_law_branches := fun_mk (st := s_law_branches) l_law_branches c_law_branches k_law_branches
  have F_law_pattern := fun_mk (st := s_law_pattern) l_law_pattern c_law_pattern k_law_pattern
  have F_law_pieces := fun_mk (st := s_law_pieces) l_law_pieces c_law_pieces k_law_pieces
  have F_law_world := fun_mk (st := s_law_world) l_law_world c_law_world k_law_world
  have F_law_refused := fun_mk (st := s_law_refused) l_law_refused c_law_refused k_law_refused
  have F_law_bad := fun_mk (st := s_law_bad) l_law_bad c_law_bad k_law_bad
  have F_law_alike := fun_mk (st := s_law_alike) l_law_alike c_law_alike k_law_alike
  have F_law := fun_mk (st := s_law) l_law c_law k_law
  let T : TX K mg := {
    a_items_in := f_items_in, fd_items_in := _, F_items_in := F_items_in, b_items_in := F_items_in.binds (ps := ["branch"]) (fun _ _ _ _ _ _ us hl => match us, hl with | [_], _ => rfl), g_items_in := PySem.W.mg_of X G a_items_in,
    a_renamed := f_renamed, fd_renamed := _, F_renamed := F_renamed, b_renamed := F_renamed.binds (ps := ["world", "names"]) (fun _ _ _ _ _ _ us hl => match us, hl with | [_, _], _ => rfl), g_renamed := PySem.W.mg_of X G a_renamed,
    a_coarser := f_coarser, fd_coarser := _, F_coarser := F_coarser, b_coarser := F_coarser.binds (ps := ["world", "names"]) (fun _ _ _ _ _ _ us hl => match us, hl with | [_, _], _ => rfl), g_coarser := PySem.W.mg_of X G a_coarser,
    a_is_names := f_is_names, fd_is_names := _, F_is_names := F_is_names, b_is_names := F_is_names.binds (ps := ["letters", "thing"]) (fun _ _ _ _ _ _ us hl => match us, hl with | [_, _], _ => rfl), g_is_names := PySem.W.mg_of X G a_is_names,
    a_mapped := f_mapped, fd_mapped := _, F_mapped := F_mapped, b_mapped := F_mapped.binds (ps := ["world", "names"]) (fun _ _ _ _ _ _ us hl => match us, hl with | [_, _], _ => rfl), g_mapped := PySem.W.mg_of X G a_mapped,
    a_rising := f_rising, fd_rising := _, F_rising := F_rising, b_rising := F_rising.binds (ps := ["signs"]) (fun _ _ _ _ _ _ us hl => match us, hl with | [_], _ => rfl), g_rising := PySem.W.mg_of X G a_rising,
    a_mapped_text := f_mapped_text, fd_mapped_text := _, F_mapped_text := F_mapped_text, b_mapped_text := F_mapped_text.binds (ps := ["text", "calls"]) (fun _ _ _ _ _ _ us hl => match us, hl with | [_, _], _ => rfl), g_mapped_text := PySem.W.mg_of X G a_mapped_text,
    a_mapped_rule := f_mapped_rule, fd_mapped_rule := _, F_mapped_rule := F_mapped_rule, b_mapped_rule := F_mapped_rule.binds (ps := ["rule", "letters", "calls"]) (fun _ _ _ _ _ _ us hl => match us, hl with | [_, _, _], _ => rfl), g_mapped_rule := PySem.W.mg_of X G a_mapped_rule,
    a_mapped_image := f_mapped_image, fd_mapped_image := _, F_mapped_image := F_mapped_image, b_mapped_image := F_mapped_image.binds (ps := ["image", "letters", "calls"]) (fun _ _ _ _ _ _ us hl => match us, hl with | [_, _, _], _ => rfl), g_mapped_image := PySem.W.mg_of X G a_mapped_image,
    a_mapped_pattern := f_mapped_pattern, fd_mapped_pattern := _, F_mapped_pattern := F_mapped_pattern, b_mapped_pattern := F_mapped_pattern.binds (ps := ["pattern", "calls"]) (fun _ _ _ _ _ _ us hl => match us, hl with | [_, _], _ => rfl), g_mapped_pattern := PySem.W.mg_of X G a_mapped_pattern,
    a_mapped_item := f_mapped_item, fd_mapped_item := _, F_mapped_item := F_mapped_item, b_mapped_item := F_mapped_item.binds (ps := ["item", "calls"]) (fun _ _ _ _ _ _ us hl => match us, hl with | [_, _], _ => rfl), g_mapped_item := PySem.W.mg_of X G a_mapped_item,
    a_law_draws := f_law_draws, fd_law_draws := _, F_law_draws := F_law_draws, b_law_draws := F_law_draws.binds (ps := ["script"]) (fun _ _ _ _ _ _ us hl => match us, hl with | [_], _ => rfl), g_law_draws := PySem.W.mg_of X G a_law_draws,
    a_law_take := f_law_take, fd_law_take := _, F_law_take := F_law_take, b_law_take := F_law_take.binds (ps := ["draws", "many"]) (fun _ _ _ _ _ _ us hl => match us, hl with | [_, _], _ => rfl), g_law_take := PySem.W.mg_of X G a_law_take,
    a_law_letters := f_law_letters, fd_law_letters := _, F_law_letters := F_law_letters, b_law_letters := F_law_letters.binds (ps := ["draws", "most"]) (fun _ _ _ _ _ _ us hl => match us, hl with | [_, _], _ => rfl), g_law_letters := PySem.W.mg_of X G a_law_letters,
    a_law_some := f_law_some, fd_law_some := _, F_law_some := F_law_some, b_law_some := F_law_some.binds (ps := ["draws", "letters"]) (fun _ _ _ _ _ _ us hl => match us, hl with | [_, _], _ => rfl), g_law_some := PySem.W.mg_of X G a_law_some,
    a_law_rule := f_law_rule, fd_law_rule := _, F_law_rule := F_law_rule, b_law_rule := F_law_rule.binds (ps := ["draws", "letters", "shape"]) (fun _ _ _ _ _ _ us hl => match us, hl with | [_, _, _], _ => rfl), g_law_rule := PySem.W.mg_of X G a_law_rule,
    a_law_fitting := f_law_fitting, fd_law_fitting := _, F_law_fitting := F_law_fitting, b_law_fitting := F_law_fitting.binds (ps := ["found"]) (fun _ _ _ _ _ _ us hl => match us, hl with | [_], _ => rfl), g_law_fitting := PySem.W.mg_of X G a_law_fitting,
    a_law_branches := f_law_branches, fd_law_branches := _, F_law_branches := F_law_branches, b_law_branches := F_law_branches.binds (ps := ["draws", "letters"]) (fun _ _ _ _ _ _ us hl => match us, hl with | [_, _], _ => rfl), g_law_branches := PySem.W.mg_of X G a_law_branches,
    a_law_pattern := f_law_pattern, fd_law_pattern := _, F_law_pattern := F_law_pattern, b_law_pattern := F_law_pattern.binds (ps := ["branches"]) (fun _ _ _ _ _ _ us hl => match us, hl with | [_], _ => rfl), g_law_pattern := PySem.W.mg_of X G a_law_pattern,
    a_law_pieces := f_law_pieces, fd_law_pieces := _, F_law_pieces := F_law_pieces, b_law_pieces := F_law_pieces.binds (ps := ["draws", "most", "rules"]) (fun _ _ _ _ _ _ us hl => match us, hl with | [_, _, _], _ => rfl), g_law_pieces := PySem.W.mg_of X G a_law_pieces,
    a_law_world := f_law_world, fd_law_world := _, F_law_world := F_law_world, b_law_world := F_law_world.binds (ps := ["pieces"]) (fun _ _ _ _ _ _ us hl => match us, hl with | [_], _ => rfl), g_law_world := PySem.W.mg_of X G a_law_world,
    a_law_refused := f_law_refused, fd_law_refused := _, F_law_refused := F_law_refused, b_law_refused := F_law_refused.binds (ps := ["way", "world", "text"]) (fun _ _ _ _ _ _ us hl => match us, hl with | [_, _, _], _ => rfl), g_law_refused := PySem.W.mg_of X G a_law_refused,
    a_law_bad := f_law_bad, fd_law_bad := _, F_law_bad := F_law_bad, b_law_bad := F_law_bad.binds (ps := ["draws", "letters", "world"]) (fun _ _ _ _ _ _ us hl => match us, hl with | [_, _, _], _ => rfl), g_law_bad := PySem.W.mg_of X G a_law_bad,
    a_law_alike := f_law_alike, fd_law_alike := _, F_law_alike := F_law_alike, b_law_alike := F_law_alike.binds (ps := ["draws", "letters"]) (fun _ _ _ _ _ _ us hl => match us, hl with | [_, _], _ => rfl), g_law_alike := PySem.W.mg_of X G a_law_alike,
    m_ValueError := PySem.W.mg_none_of X G z_ValueError,
    m_abs := PySem.W.mg_none_of X G z_abs,
    m_all := PySem.W.mg_none_of X G z_all,
    m_dict := PySem.W.mg_none_of X G z_dict,
    m_isinstance := PySem.W.mg_none_of X G z_isinstance,
    m_len := PySem.W.mg_none_of X G z_len,
    m_list := PySem.W.mg_none_of X G z_list,
    m_min := PySem.W.mg_none_of X G z_min,
    m_range := PySem.W.mg_none_of X G z_range,
    m_set := PySem.W.mg_none_of X G z_set,
    m_sorted := PySem.W.mg_none_of X G z_sorted,
    m_str := PySem.W.mg_none_of X G z_str,
    m_tuple := PySem.W.mg_none_of X G z_tuple,
    m_zip := PySem.W.mg_none_of X G z_zip,
    A_HandsError := A_HandsError, x_HandsError := PySem.W.mg_of X G y_HandsError,
    A_NoMap := A_NoMap, x_NoMap := PySem.W.mg_of X G y_NoMap,
    A_NoPattern := A_NoPattern, x_NoPattern := PySem.W.mg_of X G y_NoPattern,
    A_NoRow := A_NoRow, x_NoRow := PySem.W.mg_of X G y_NoRow,
    A_NoStory := A_NoStory, x_NoStory := PySem.W.mg_of X G y_NoStory,
    A_NoWorld := A_NoWorld, x_NoWorld := PySem.W.mg_of X G y_NoWorld,
    e_NoMap := e_NoMap,
    k_NoMap := k_NoMap,
    b_NoMap := b_NoMap,
    t_NoMap := t_NoMap,
    h1_NoMap := h1_NoMap,
    h2_NoMap := h2_NoMap,
    h4_NoMap := h4_NoMap,
    h5_NoMap := h5_NoMap,
    h6_NoMap := h6_NoMap,
    h7_NoMap := h7_NoMap,
    h8_NoMap := h8_NoMap,
    c1_NoMap_HandsError := c1_NoMap_HandsError,
    c2_NoMap_HandsError := c2_NoMap_HandsError,
    c3_NoMap_HandsError := c3_NoMap_HandsError,
    c4_NoMap_HandsError := c4_NoMap_HandsError,
    q_NoMap_NoMap := q_NoMap_NoMap,
    q_NoMap_NoPattern := q_NoMap_NoPattern,
    q_NoMap_NoRow := q_NoMap_NoRow,
    q_NoMap_NoStory := q_NoMap_NoStory,
    q_NoMap_NoWorld := q_NoMap_NoWorld,
    q_NoMap_V := q_NoMap_V }
  exact ⟨_, fun s v => .of_eq rfl, fun base _ _ => ok_law F_law T⟩
end LH
open PySem PySem.W PyProof.Rows
set_option maxHeartbeats 0 in
theorem PySem.Challenge.cw_likehands_k83_texts_of_no_map_holds : PySem.Challenge.rw_likehands_k83_texts_of_no_map.Holds := by
  w_on; o_law; k_head; (case hw => w_witness2)
  k_fill
  refine L2.walk_of (l := PySem.Challenge.rw_likehands_k83_texts_of_no_map) (n := 63) (k := 7) (x := "script") (CX := fun _ => L2.CX0) (sp := fun w => LH.sp_law _) rfl (by decide) rfl ⟨rfl, by decide, by decide⟩ (fun w h Y => PySem.W.kIn_of Y) ?F (fun _ _ a ns hl _ hS => ⟨a, ns, rfl, hS, hl, fun _ => rfl⟩) (fun _ _ _ _ _ h => h)
  case F =>
    intro w mg fa h KX G hmg
    refine' LH.all_mk KX G hmg ?a_items_in ?l_items_in ?c_items_in ?k_items_in ?a_renamed ?l_renamed ?c_renamed ?k_renamed ?a_coarser ?l_coarser ?c_coarser ?k_coarser ?a_is_names ?l_is_names ?c_is_names ?k_is_names ?a_mapped ?l_mapped ?c_mapped ?k_mapped ?a_rising ?l_rising ?c_rising ?k_rising ?a_mapped_text ?l_mapped_text ?c_mapped_text ?k_mapped_text ?a_mapped_rule ?l_mapped_rule ?c_mapped_rule ?k_mapped_rule ?a_mapped_image ?l_mapped_image ?c_mapped_image ?k_mapped_image ?a_mapped_pattern ?l_mapped_pattern ?c_mapped_pattern ?k_mapped_pattern ?a_mapped_item ?l_mapped_item ?c_mapped_item ?k_mapped_item ?a_law_draws ?l_law_draws ?c_law_draws ?k_law_draws ?a_law_take ?l_law_take ?c_law_take ?k_law_take ?a_law_letters ?l_law_letters ?c_law_letters ?k_law_letters ?a_law_some ?l_law_some ?c_law_some ?k_law_some ?a_law_rule ?l_law_rule ?c_law_rule ?k_law_rule ?a_law_fitting ?l_law_fitting ?c_law_fitting ?k_law_fitting ?a_law_branches ?l_law_branches ?c_law_branches ?k_law_branches ?a_law_pattern ?l_law_pattern ?c_law_pattern ?k_law_pattern ?a_law_pieces ?l_law_pieces ?c_law_pieces ?k_law_pieces ?a_law_world ?l_law_world ?c_law_world ?k_law_world ?a_law_refused ?l_law_refused ?c_law_refused ?k_law_refused ?a_law_bad ?l_law_bad ?c_law_bad ?k_law_bad ?a_law_alike ?l_law_alike ?c_law_alike ?k_law_alike ?a_law ?l_law ?c_law ?k_law ?z_ValueError ?z_abs ?z_all ?z_dict ?z_isinstance ?z_len ?z_list ?z_min ?z_range ?z_set ?z_sorted ?z_str ?z_tuple ?z_zip ?y_HandsError ?y_NoMap ?y_NoPattern ?y_NoRow ?y_NoStory ?y_NoWorld ?e_NoMap ?k_NoMap ?b_NoMap ?t_NoMap ?h1_NoMap ?h2_NoMap ?h4_NoMap ?h5_NoMap ?h6_NoMap ?h7_NoMap ?h8_NoMap ?c1_NoMap_HandsError ?c2_NoMap_HandsError ?c3_NoMap_HandsError ?c4_NoMap_HandsError ?q_NoMap_NoMap ?q_NoMap_NoPattern ?q_NoMap_NoRow ?q_NoMap_NoStory ?q_NoMap_NoWorld ?q_NoMap_V
    (case a_items_in => k_is)
    (case l_items_in => k_is)
    (case c_items_in => k_is)
    (case k_items_in => k_is)
    (case a_renamed => k_is)
    (case l_renamed => k_is)
    (case c_renamed => k_is)
    (case k_renamed => k_is)
    (case a_coarser => k_is)
    (case l_coarser => k_is)
    (case c_coarser => k_is)
    (case k_coarser => k_is)
    (case a_is_names => k_is)
    (case l_is_names => k_is)
    (case c_is_names => k_is)
    (case k_is_names => k_is)
    (case a_mapped => k_is)
    (case l_mapped => k_is)
    (case c_mapped => k_is)
    (case k_mapped => k_is)
    (case a_rising => k_is)
    (case l_rising => k_is)
    (case c_rising => k_is)
    (case k_rising => k_is)
    (case a_mapped_text => k_is)
    (case l_mapped_text => k_is)
    (case c_mapped_text => k_is)
    (case k_mapped_text => k_is)
    (case a_mapped_rule => k_is)
    (case l_mapped_rule => k_is)
    (case c_mapped_rule => k_is)
    (case k_mapped_rule => k_is)
    (case a_mapped_image => k_is)
    (case l_mapped_image => k_is)
    (case c_mapped_image => k_is)
    (case k_mapped_image => k_is)
    (case a_mapped_pattern => k_is)
    (case l_mapped_pattern => k_is)
    (case c_mapped_pattern => k_is)
    (case k_mapped_pattern => k_is)
    (case a_mapped_item => k_is)
    (case l_mapped_item => k_is)
    (case c_mapped_item => k_is)
    (case k_mapped_item => k_is)
    (case a_law_draws => k_is)
    (case l_law_draws => k_is)
    (case c_law_draws => k_is)
    (case k_law_draws => k_is)
    (case a_law_take => k_is)
    (case l_law_take => k_is)
    (case c_law_take => k_is)
    (case k_law_take => k_is)
    (case a_law_letters => k_is)
    (case l_law_letters => k_is)
    (case c_law_letters => k_is)
    (case k_law_letters => k_is)
    (case a_law_some => k_is)
    (case l_law_some => k_is)
    (case c_law_some => k_is)
    (case k_law_some => k_is)
    (case a_law_rule => k_is)
    (case l_law_rule => k_is)
    (case c_law_rule => k_is)
    (case k_law_rule => k_is)
    (case a_law_fitting => k_is)
    (case l_law_fitting => k_is)
    (case c_law_fitting => k_is)
    (case k_law_fitting => k_is)
    (case a_law_branches => k_is)
    (case l_law_branches => k_is)
    (case c_law_branches => k_is)
    (case k_law_branches => k_is)
    (case a_law_pattern => k_is)
    (case l_law_pattern => k_is)
    (case c_law_pattern => k_is)
    (case k_law_pattern => k_is)
    (case a_law_pieces => k_is)
    (case l_law_pieces => k_is)
    (case c_law_pieces => k_is)
    (case k_law_pieces => k_is)
    (case a_law_world => k_is)
    (case l_law_world => k_is)
    (case c_law_world => k_is)
    (case k_law_world => k_is)
    (case a_law_refused => k_is)
    (case l_law_refused => k_is)
    (case c_law_refused => k_is)
    (case k_law_refused => k_is)
    (case a_law_bad => k_is)
    (case l_law_bad => k_is)
    (case c_law_bad => k_is)
    (case k_law_bad => k_is)
    (case a_law_alike => k_is)
    (case l_law_alike => k_is)
    (case c_law_alike => k_is)
    (case k_law_alike => k_is)
    (case a_law => k_is)
    (case l_law => k_is)
    (case c_law => k_is)
    (case k_law => k_is)
    (case z_ValueError => k_is)
    (case z_abs => k_is)
    (case z_all => k_is)
    (case z_dict => k_is)
    (case z_isinstance => k_is)
    (case z_len => k_is)
    (case z_list => k_is)
    (case z_min => k_is)
    (case z_range => k_is)
    (case z_set => k_is)
    (case z_sorted => k_is)
    (case z_str => k_is)
    (case z_tuple => k_is)
    (case z_zip => k_is)
    (case y_HandsError => k_is)
    (case y_NoMap => k_is)
    (case y_NoPattern => k_is)
    (case y_NoRow => k_is)
    (case y_NoStory => k_is)
    (case y_NoWorld => k_is)
    (case e_NoMap => k_exc)
    (case k_NoMap => first | k_is | rfl | kernel_rfl | decide +kernel)
    (case b_NoMap => first | k_is | rfl | kernel_rfl | decide +kernel)
    (case t_NoMap => first | k_is | rfl | kernel_rfl | decide +kernel)
    (case h1_NoMap => first | k_is | rfl | kernel_rfl | decide +kernel)
    (case h2_NoMap => first | k_is | rfl | kernel_rfl | decide +kernel)
    (case h4_NoMap => first | k_is | rfl | kernel_rfl | decide +kernel)
    (case h5_NoMap => first | k_is | rfl | kernel_rfl | decide +kernel)
    (case h6_NoMap => first | k_is | rfl | kernel_rfl | decide +kernel)
    (case h7_NoMap => first | k_is | rfl | kernel_rfl | decide +kernel)
    (case h8_NoMap => first | k_is | rfl | kernel_rfl | decide +kernel)
    (case c1_NoMap_HandsError => first | k_is | rfl | kernel_rfl | decide +kernel)
    (case c2_NoMap_HandsError => first | k_is | rfl | kernel_rfl | decide +kernel)
    (case c3_NoMap_HandsError => first | k_is | rfl | kernel_rfl | decide +kernel)
    (case c4_NoMap_HandsError => first | k_is | rfl | kernel_rfl | decide +kernel)
    (case q_NoMap_NoMap => first | k_is | rfl | kernel_rfl | decide +kernel)
    (case q_NoMap_NoPattern => first | k_is | rfl | kernel_rfl | decide +kernel)
    (case q_NoMap_NoRow => first | k_is | rfl | kernel_rfl | decide +kernel)
    (case q_NoMap_NoStory => first | k_is | rfl | kernel_rfl | decide +kernel)
    (case q_NoMap_NoWorld => first | k_is | rfl | kernel_rfl | decide +kernel)
    (case q_NoMap_V => first | k_is | rfl | kernel_rfl | decide +kernel)
